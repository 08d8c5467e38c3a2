/- Texts of one proof. -/
import Derived.Test.YtekchkfjgofnkaaGreatDoorMy20
set_option maxRecDepth 100000
set_option maxHeartbeats 8000000
namespace Go.Proofs.YtekchkfjgofnkaaGreatDoor
open Go.RowKit
theorem zFS (ns tl:List (List UInt8)):(ns.foldl tput tl).take (tcut (ns.foldl tput tl).length (tl.length:Int))=tl:=by
 obtain ⟨x,hx⟩:=zFv ns tl
 have h1:tcut (ns.foldl tput tl).length (tl.length:Int)=tl.length:=by
  unfold tcut
  rw [hx,List.length_append]
  omega
 rw [h1,hx,List.take_left]
theorem zOJ (tl:List (List UInt8)):tl.take (tcut tl.length (tl.length:Int))=tl:=zFS [] tl
theorem zFL {w:World} {b:Nat} {o:Obj} (h:w.heap[b]? = some o):b<w.heap.size:=(Array.getElem?_eq_some_iff.1 h).1
theorem zSD (S:Nat→Prop) (bt B N n c a:Nat) (ver:Int) (hver:ver=1∨ver=2∨ver=3) (tl ts pre post:List (List UInt8)) (p:List UInt8) (A:Option Addr) (r:Rc) (l:List Dp) (tl1:List (List UInt8)) (hts:∀ t ∈ ts,zBh t=true∧t≠[]∧t.length≤1000000) (hp:zBh p=false) (hpl:p.length≤1000000) (htl1:tl1=(ts.map List.tail).foldl tput tl)
    (hrr:(zBi ver tl1 (Cu.new p 0).byte.1.toNat (zAY p)).r=r) (hll:(zBi ver tl1 (Cu.new p 0).byte.1.toNat (zAY p)).l=l) (hfit:Fits r l) (hnu:Nums r l) (hm:¬ MayP ver r l) (hl16:l.length≤1000) (hn2:n≤100000) (htl:tl.length≤800000000) (hN:N≤800000000) (ha:pre.length=a) (w:World) (hB:B≤w.heap.size) (hT:Tab w S bt N tl) (hr:PlsT w B S A n c (pre++((ts++[p])++post))) :
    Calls Tryz.prog 103 #[.int .i64 ver,.pointer (some ⟨bt,0,none⟩),.slice A n c,.int .i64 (a:Int)] w fun e w' =>∃ S':Nat→Prop,e=.returned (.tuple #[.agg #[.int .i64 0,.string ⟨#[]⟩,.int .u64 0,.slice none 0 0,.int .u64 0,.int .u64 0,.string ⟨#[]⟩],.int .i64 0,.int .i64 3])∧(∃ N',N'≤N+100036∧Tab w' S' bt N' tl)∧(∀ k,S' k→k<w'.heap.size∧(S k∨w.heap.size≤k))∧Turn S w w':=by
  have HTAKE:Hid (tl1.take (tcut tl1.length (tl.length:Int))=tl):=(by show _=_;rw [htl1];exact zFS _ _)
  have HL16:Hid (l.length≤1000):=hl16
  have HWHY:Hid (zHh ver=1):=(by show _=_;unfold zHh;rw [if_pos (by omega)])
  have hv1:1≤ver:=by omega
  have hv3:ver≤3:=by omega
  have d1:decide (ver<1)=false:=decide_eq_false (by omega)
  have d2:decide (ver > 3)=false:=decide_eq_false (by omega)
  obtain ⟨q,hq⟩:∃ q,q=ts.length:=⟨_,rfl⟩
  have hpl2:(ts++[p]).length=q+1:=by rw [List.length_append,← hq];rfl
  have hlen:n=a+(q+1)+post.length:=by have h1:=hr.2.1;rw [List.length_append,List.length_append,hpl2,ha] at h1;omega
  have hcn:n≤c:=hr.1
  have hrd:=hr.drop (k:=a) (by omega)
  have hdrop:(pre++((ts++[p])++post)).drop a=(ts++[p])++post:=by rw [← ha,List.drop_left]
  rw [hdrop,if_neg (by omega)] at hrd
  obtain ⟨ad,rfl,hab,_⟩:∃ ad,A=some ad∧ad.block<B∧True:=by
    obtain ⟨_,_,vs,h1,_⟩:=hr
    obtain ⟨ad,h2,h3,_⟩:=h1.2 (by omega)
    exact ⟨ad,h2,h3,trivial⟩
  have hrf:=hrd.upto (k:=q+1) (by omega)
  have htake:((ts++[p])++post).take (q+1)=ts++[p]:=by rw [List.take_append_of_le_length (by rw [hpl2];exact Nat.le_refl _),List.take_of_length_le (by rw [hpl2];exact Nat.le_refl _)]
  rw [htake] at hrf
  have hah:zAf ((ts++[p])++post)=q:=by
    rw [List.append_assoc,List.singleton_append,zDM _ _ _ (fun t ht =>(hts t ht).1) hp,← hq]
  have h0:=zAE w (.cells #[.int .i64 0,.string ⟨#[]⟩,.int .u64 0,.slice none 0 0,.int .u64 0,.int .u64 0,.string ⟨#[]⟩] 41)
  have hz:(w.alloc (.cells #[.int .i64 0,.string ⟨#[]⟩,.int .u64 0,.slice none 0 0,.int .u64 0,.int .u64 0,.string ⟨#[]⟩] 41)).heap.size=w.heap.size+1:=by simp
  have hb0:=(Below.refl w.heap.size w).alloc (Nat.le_refl _) (.cells #[.int .i64 0,.string ⟨#[]⟩,.int .u64 0,.slice none 0 0,.int .u64 0,.int .u64 0,.string ⟨#[]⟩] 41)
  have hta:=zDk B (n - a) (c - a) ((ts++[p])++post) (some (ad.add a)) (by omega) (w.alloc (.cells #[.int .i64 0,.string ⟨#[]⟩,.int .u64 0,.slice none 0 0,.int .u64 0,.int .u64 0,.string ⟨#[]⟩] 41)) (hrd.less.below (hb0.mono hB))
  rw [hah] at hta
  have HAH:=yh hta
  have ha0:(0:Int)≤(a:Int):=by omega
  have ha1:(a:Int)<(n:Int):=by omega
  have han:a<n:=by omega
  have haq:a+q<n:=by omega
  have haq1:a+q+1≤n:=by omega
  have haq2:(a:Int)+(q:Int)<(n:Int):=by omega
  have haq3:(a:Int)+(q:Int)+1≤(n:Int):=by omega
  have HB0:=yh hb0
  have HZ:=yh hz
  have HA0:=yh h0
  have HRF:=yh hrf
  obtain ⟨T0,hT0⟩:∃ T0:Nat→Prop,T0=fun k =>S k∧k<w.heap.size:=⟨_,rfl⟩
  have htz:Tab (w.alloc (.cells #[.int .i64 0,.string ⟨#[]⟩,.int .u64 0,.slice none 0 0,.int .u64 0,.int .u64 0,.string ⟨#[]⟩] 41)) T0 bt N tl:=by rw [hT0];exact (hT.wide (fun k h1 h2 =>⟨h1,h2⟩)).keep (fun k hk _ =>hb0.block k hk.2)
  have HLEN:=yh (zDP T0 bt N tl (w.alloc (.cells #[.int .i64 0,.string ⟨#[]⟩,.int .u64 0,.slice none 0 0,.int .u64 0,.int .u64 0,.string ⟨#[]⟩] 41)) htz)
  have hq100:q≤100000:=by omega
  have htl1l:tl1.length≤tl.length+q:=by rw [htl1,hq];have:=zBc (ts.map List.tail) tl;rw [List.length_map] at this;omega
  have HTK:Hid (Calls Tryz.prog 116 #[.int .i64 ver,.pointer (some ⟨bt,0,none⟩),.slice (some (ad.add a)) (q+1) (c - a)] (w.alloc (.cells #[.int .i64 0,.string ⟨#[]⟩,.int .u64 0,.slice none 0 0,.int .u64 0,.int .u64 0,.string ⟨#[]⟩] 41)) fun e w' =>∃ (A':Option Addr) (n' c':Nat) (S':Nat→Prop),e=.returned (.agg #[.int .i64 r.kind,.string (tx r.target),.int .u64 r.rule,.slice A' n' c',.int .u64 r.out,.int .u64 r.time,.string (tx r.tag)])∧Deps w' (w.alloc (.cells #[.int .i64 0,.string ⟨#[]⟩,.int .u64 0,.slice none 0 0,.int .u64 0,.int .u64 0,.string ⟨#[]⟩] 41)).heap.size A' n' c' l∧(∀ ad,A'=some ad→¬ S' ad.block)∧Tab w' S' bt (N+q) tl1∧(∀ k,S' k→k<w'.heap.size∧(T0 k∨(w.alloc (.cells #[.int .i64 0,.string ⟨#[]⟩,.int .u64 0,.slice none 0 0,.int .u64 0,.int .u64 0,.string ⟨#[]⟩] 41)).heap.size≤k))∧Turn T0 (w.alloc (.cells #[.int .i64 0,.string ⟨#[]⟩,.int .u64 0,.slice none 0 0,.int .u64 0,.int .u64 0,.string ⟨#[]⟩] 41)) w'):=by
    have h1:=zFu T0 bt B N (q+1) (c - a) ver hver tl ts p (some (ad.add a)) (fun t ht =>(hts t ht).2) hpl (by omega) (by omega) (by omega) (by omega) (w.alloc (.cells #[.int .i64 0,.string ⟨#[]⟩,.int .u64 0,.slice none 0 0,.int .u64 0,.int .u64 0,.string ⟨#[]⟩] 41)) (by rw [hz];omega) htz ((hrf.turn (Turn.of_below hb0) hB).wide (fun k _ hk =>by rw [hT0] at hk;exact hk.1)) tl1 htl1
    rw [hrr,hll,← hq] at h1
    exact h1
  have HBW:=yh hB
  have HT0:=yh hT0
  have HQ:=yh hq
  have HPLN:=yh hpl2
  have HTLL:=yh htl1l
  have HQ100:Hid (q≤100000):=hq100
  have HFIT:=yh hfit
  have HNU:=yh hnu
  have hq1:a+q+1 - a=q+1:=by omega
  have HTL:=yh htl
  have HN:=yh hN
  clear htz hT0 hB hT hq hfit hnu htl hN hts hp hpl htl1 hrr hll htl1l hq100
  clear hr hrd hdrop htake hah hta h0 hz hb0 hlen hpl2 hrf
  go_enter Tryz.func103,Tryz.ntmps103
  go_wp2_with (go_at_call 115;refine HAH.out.mono ?_;rintro e w3 ⟨rfl,rfl⟩)
  go_wp2_with (go_at_call 86;refine HLEN.out.mono ?_;rintro e w3 ⟨rfl,rfl⟩)
  (
       refine HTK.out.mono ?_
       rintro e w4 ⟨A9,n9,c9,S9,rfl,hd9,hap9,ht9,hs9,htu9⟩
       have hz4:w4.heap[w.heap.size]? = some (.cells #[.int .i64 0,.string ⟨#[]⟩,.int .u64 0,.slice none 0 0,.int .u64 0,.int .u64 0,.string ⟨#[]⟩] 41 (0,0)):=(htu9.2.2.2.2 _ (by rw [HZ.out];omega) (fun h =>by rw [HT0.out] at h;omega)).trans HA0.out
       have f0:=zAA (i:=0) hz4 rfl
       have y0:=zAC (i:=0) hz4
       have f1:=zAA (i:=1) hz4 rfl
       have y1:=zAC (i:=1) hz4
       have f2:=zAA (i:=2) hz4 rfl
       have y2:=zAC (i:=2) hz4
       have f3:=zAA (i:=3) hz4 rfl
       have y3:=zAC (i:=3) hz4
       have f4:=zAA (i:=4) hz4 rfl
       have y4:=zAC (i:=4) hz4
       have f5:=zAA (i:=5) hz4 rfl
       have y5:=zAC (i:=5) hz4
       have f6:=zAA (i:=6) hz4 rfl
       have y6:=zAC (i:=6) hz4
       have hws:=(zAF (zAF (zAF (zAF (zAF (zAF (zAF hz4 0 (.int .i64 r.kind)) 1 (.string (tx r.target))) 2 (.int .u64 r.rule)) 3 (.slice A9 n9 c9)) 4 (.int .u64 r.out)) 5 (.int .u64 r.time)) 6 (.string (tx r.tag)))
       have htw:=((((((((Turn.refl (fun k =>k=w.heap.size) w4).setCell w.heap.size 0 (.int .i64 r.kind) rfl).setCell w.heap.size 1 (.string (tx r.target)) rfl).setCell w.heap.size 2 (.int .u64 r.rule) rfl).setCell w.heap.size 3 (.slice A9 n9 c9) rfl).setCell w.heap.size 4 (.int .u64 r.out) rfl).setCell w.heap.size 5 (.int .u64 r.time) rfl).setCell w.heap.size 6 (.string (tx r.tag)) rfl)
       have hnr:¬ S9 w.heap.size:=fun h =>by
         rcases (hs9 _ h).2 with h1 | h1
         · rw [HT0.out] at h1;omega
         · rw [HZ.out] at h1;omega
       have htw9:=ht9.turn htw (fun k hk _ h =>hnr (h▸hk))
       have hcut:=zEk S9 bt (N+q) tl1 (tl.length:Int) (by have:=HTLL.out;have:=HTL.out;have:=HQ100.out;omega) _ htw9
       rw [HTAKE.out] at hcut
       have HCUT:=yh hcut
       have HWS:=yh hws
       have HTW:=yh htw
       have HD9:=yh hd9
       have HAP9:=yh hap9
       have HS9:=yh hs9
       have HTU9:=yh htu9
       have HNR:=yh hnr
       clear hd9 hap9 ht9 hs9 htu9 hz4 hws htw hnr htw9 hcut)
  go_wp2_with (first
    | (go_at_call 117;first
       | (refine HCUT2.out.mono ?_
          rintro e w7 ⟨rfl,ht7,htu7⟩
          have hrec7:=(htu7.2.2.2.2 _ HLT6.out HNR.out).trans HREC6.out
          have HREC7:=yh hrec7
          have k0:=zAA (i:=0) hrec7 rfl;have m0:=zAC (i:=0) hrec7;have k1:=zAA (i:=1) hrec7 rfl;have m1:=zAC (i:=1) hrec7;have k2:=zAA (i:=2) hrec7 rfl;have m2:=zAC (i:=2) hrec7;have k3:=zAA (i:=3) hrec7 rfl;have m3:=zAC (i:=3) hrec7;have k4:=zAA (i:=4) hrec7 rfl;have m4:=zAC (i:=4) hrec7;have k5:=zAA (i:=5) hrec7 rfl;have m5:=zAC (i:=5) hrec7;have k6:=zAA (i:=6) hrec7 rfl;have m6:=zAC (i:=6) hrec7
          have HT7:=yh ht7
          have HTU7:=yh htu7
          clear hrec7 ht7 htu7)
       | (
       refine HCUT.out.mono ?_;clear HCUT
       rintro e w5 ⟨rfl,ht5,htu5⟩
       have hlt5:w.heap.size<w4.heap.size:=by have h1:=HTU9.out.2.2.2.1;rw [HZ.out] at h1;omega
       have hrec5:w5.heap[w.heap.size]? = some (.cells #[.int .i64 r.kind,.string (tx r.target),.int .u64 r.rule,.slice A9 n9 c9,.int .u64 r.out,.int .u64 r.time,.string (tx r.tag)] 41 (0,0)):=(htu5.2.2.2.2 _ (Nat.lt_of_lt_of_le hlt5 HTW.out.2.2.2.1) HNR.out).trans HWS.out
       have g0:=zAA (i:=0) hrec5 rfl
       have g1:=zAA (i:=1) hrec5 rfl
       have g2:=zAA (i:=2) hrec5 rfl
       have g3:=zAA (i:=3) hrec5 rfl
       have g4:=zAA (i:=4) hrec5 rfl
       have g5:=zAA (i:=5) hrec5 rfl
       have g6:=zAA (i:=6) hrec5 rfl
       have hown9:∀ g,(Value.slice A9 n9 c9).ownBlock=some g→g<w4.heap.size∧g≠w.heap.size∧¬ S9 g:=fun g hg =>by
         refine ⟨zAP HD9.out.1 g hg,fun h =>?_,fun h =>?_⟩
         · have h1:=zAG HD9.out.1 g hg
           rw [HZ.out] at h1
           omega
         · cases A9 with
           | none =>cases hg
           | some x =>exact HAP9.out x rfl (by have h1:x.block=g:=Option.some.inj hg;rw [h1];exact h)
       have hown5:=zAR (w':=w5) HD9.out.1 (fun g hg =>(htu5.2.2.2.2 g (Nat.lt_of_lt_of_le (hown9 g hg).1 HTW.out.2.2.2.1) (hown9 g hg).2.2).trans (HTW.out.2.2.2.2 g (hown9 g hg).1 (hown9 g hg).2.1))
       have HPUT:=yh (zLG bt ver r A9 n9 c9 l hm (by have h1:=HD9.out.1.1;have h2:=HL16.out;rw [zAn] at h1;omega) HFIT.out w5 (zAD.of_own hown5))
       have HT5:=yh ht5
       have HREC5:=yh hrec5
       have HTU5:=yh htu5
       have HLT5:=yh hlt5
       clear hrec5 hown5 hown9 htu5 ht5 hlt5))
    | (go_at_call 109
       refine HPUT.out.mono ?_
       rintro e w6 ⟨he6,hb6⟩
       rw [HWHY.out] at he6
       subst he6
       have hl5:w.heap.size<w5.heap.size:=zFL HREC5.out
       have hrec6:=(hb6.block _ hl5).trans HREC5.out
       have HREC6:=yh hrec6
       have HLT6:Hid (w.heap.size<w6.heap.size):=Nat.lt_of_lt_of_le hl5 hb6.size
       have ht6:=HT5.out.keep (w':=w6) (fun k hk hkl =>hb6.block k hkl)
       have HB6:=yh hb6
       have hcut2:=zEk S9 bt (N+q) tl (tl.length:Int) (by have:=HTL.out;omega) w6 ht6
       rw [zOJ] at hcut2
       have HCUT2:=yh hcut2
       clear hrec6 hb6 ht6 hcut2 hl5))
  have hfin:=(zAF (zAF (zAF (zAF (zAF (zAF (zAF HREC7.out 0 (.int .i64 0)) 1 (.string ⟨#[]⟩)) 2 (.int .u64 0)) 3 (.slice none 0 0)) 4 (.int .u64 0)) 5 (.int .u64 0)) 6 (.string ⟨#[]⟩))
  have htn:=((((((((Turn.refl (fun k =>k=w.heap.size) w7).setCell w.heap.size 0 (.int .i64 0) rfl).setCell w.heap.size 1 (.string ⟨#[]⟩) rfl).setCell w.heap.size 2 (.int .u64 0) rfl).setCell w.heap.size 3 (.slice none 0 0) rfl).setCell w.heap.size 4 (.int .u64 0) rfl).setCell w.heap.size 5 (.int .u64 0) rfl).setCell w.heap.size 6 (.string ⟨#[]⟩) rfl)
  refine bodyPost_ret (zAp rfl _ _ _ _ _ _ _ rfl hfin Tryz.underlying41 rfl (by kernel_rfl)) rfl ?_
  have hS9:∀ k,S9 k→S k∨w.heap.size+1≤k:=fun k hk =>by
    rcases (HS9.out k hk).2 with h1 | h1
    · rw [HT0.out] at h1;exact .inl h1.1
    · rw [HZ.out] at h1;exact .inr h1
  refine ⟨S9,rfl,⟨N+q,by have:=HQ100.out;omega,HT7.out.turn htn (fun k hk _ h =>HNR.out (h▸hk))⟩,fun k hk =>⟨?_,?_⟩,?_⟩
  · have h1:=(HS9.out k hk).1
    have h2:=HTW.out.2.2.2.1
    have h3:=HTU5.out.2.2.2.1
    have h4:=HB6.out.size
    have h5:=HTU7.out.2.2.2.1
    have h6:=htn.2.2.2.1
    omega
  · rcases hS9 k hk with h | h
    · exact .inl h
    · exact .inr (by omega)
  · refine ((((((Turn.of_below HB0.out).trans HTU9.out (fun k _ h =>?_)).trans HTW.out (fun k hk h =>?_)).trans HTU5.out (fun k hk h =>?_)).trans (Turn.of_below (S:=S) HB6.out) (fun k hk h =>h)).trans HTU7.out (fun k hk h =>?_)).trans htn (fun k hk h =>?_)
    · rw [HT0.out] at h;exact h.1
    · omega
    · rcases hS9 k h with h2 | h2
      · exact h2
      · omega
    · rcases hS9 k h with h2 | h2
      · exact h2
      · omega
    · omega
theorem zSG (S:Nat→Prop) (bt B N n c a:Nat) (ver:Int) (hver:ver=1∨ver=2∨ver=3) (tl ts pre post:List (List UInt8)) (p:List UInt8) (A:Option Addr) (r:Rc) (l:List Dp) (tl1:List (List UInt8)) (hts:∀ t ∈ ts,zBh t=true∧t≠[]∧t.length≤1000000) (hp:zBh p=false) (hpl:p.length≤1000000) (htl1:tl1=(ts.map List.tail).foldl tput tl)
    (hrr:(zBi ver tl1 (Cu.new p 0).byte.1.toNat (zAY p)).r=r) (hll:(zBi ver tl1 (Cu.new p 0).byte.1.toNat (zAY p)).l=l) (hfit:Fits r l) (hnu:Nums r l) (hm:MayP ver r l) (hneq:payL ver tl r l≠ts++[p]) (hn2:n≤100000) (htl:tl.length≤800000000) (hN:N≤800000000) (ha:pre.length=a) (w:World) (hB:B≤w.heap.size) (hT:Tab w S bt N tl) (hr:PlsT w B S A n c (pre++((ts++[p])++post))) :
    Calls Tryz.prog 103 #[.int .i64 ver,.pointer (some ⟨bt,0,none⟩),.slice A n c,.int .i64 (a:Int)] w fun e w' =>∃ S':Nat→Prop,e=.returned (.tuple #[.agg #[.int .i64 0,.string ⟨#[]⟩,.int .u64 0,.slice none 0 0,.int .u64 0,.int .u64 0,.string ⟨#[]⟩],.int .i64 0,.int .i64 3])∧(∃ N',N'≤N+100036∧Tab w' S' bt N' tl)∧(∀ k,S' k→k<w'.heap.size∧(S k∨w.heap.size≤k))∧Turn S w w':=by
  have HTAKE:Hid (tl1.take (tcut tl1.length (tl.length:Int))=tl):=(by show _=_;rw [htl1];exact zFS _ _)
  have HNEQ:Hid (payL ver tl r l≠ts++[p]):=hneq
  obtain ⟨pn,hpn⟩:∃ pn,pn=(payL ver tl r l).length:=⟨_,rfl⟩
  have HPN:=yh hpn
  have HPN19:Hid (pn≤19):=(by have:=zCr (tl:=tl) hm;show _≤_;omega)
  clear hpn hneq
  have hv1:1≤ver:=by omega
  have hv3:ver≤3:=by omega
  have d1:decide (ver<1)=false:=decide_eq_false (by omega)
  have d2:decide (ver > 3)=false:=decide_eq_false (by omega)
  obtain ⟨q,hq⟩:∃ q,q=ts.length:=⟨_,rfl⟩
  have hpl2:(ts++[p]).length=q+1:=by rw [List.length_append,← hq];rfl
  have hlen:n=a+(q+1)+post.length:=by have h1:=hr.2.1;rw [List.length_append,List.length_append,hpl2,ha] at h1;omega
  have hcn:n≤c:=hr.1
  have hrd:=hr.drop (k:=a) (by omega)
  have hdrop:(pre++((ts++[p])++post)).drop a=(ts++[p])++post:=by rw [← ha,List.drop_left]
  rw [hdrop,if_neg (by omega)] at hrd
  obtain ⟨ad,rfl,hab,_⟩:∃ ad,A=some ad∧ad.block<B∧True:=by
    obtain ⟨_,_,vs,h1,_⟩:=hr
    obtain ⟨ad,h2,h3,_⟩:=h1.2 (by omega)
    exact ⟨ad,h2,h3,trivial⟩
  have hrf:=hrd.upto (k:=q+1) (by omega)
  have htake:((ts++[p])++post).take (q+1)=ts++[p]:=by rw [List.take_append_of_le_length (by rw [hpl2];exact Nat.le_refl _),List.take_of_length_le (by rw [hpl2];exact Nat.le_refl _)]
  rw [htake] at hrf
  have hah:zAf ((ts++[p])++post)=q:=by
    rw [List.append_assoc,List.singleton_append,zDM _ _ _ (fun t ht =>(hts t ht).1) hp,← hq]
  have h0:=zAE w (.cells #[.int .i64 0,.string ⟨#[]⟩,.int .u64 0,.slice none 0 0,.int .u64 0,.int .u64 0,.string ⟨#[]⟩] 41)
  have hz:(w.alloc (.cells #[.int .i64 0,.string ⟨#[]⟩,.int .u64 0,.slice none 0 0,.int .u64 0,.int .u64 0,.string ⟨#[]⟩] 41)).heap.size=w.heap.size+1:=by simp
  have hb0:=(Below.refl w.heap.size w).alloc (Nat.le_refl _) (.cells #[.int .i64 0,.string ⟨#[]⟩,.int .u64 0,.slice none 0 0,.int .u64 0,.int .u64 0,.string ⟨#[]⟩] 41)
  have hta:=zDk B (n - a) (c - a) ((ts++[p])++post) (some (ad.add a)) (by omega) (w.alloc (.cells #[.int .i64 0,.string ⟨#[]⟩,.int .u64 0,.slice none 0 0,.int .u64 0,.int .u64 0,.string ⟨#[]⟩] 41)) (hrd.less.below (hb0.mono hB))
  rw [hah] at hta
  have HAH:=yh hta
  have ha0:(0:Int)≤(a:Int):=by omega
  have ha1:(a:Int)<(n:Int):=by omega
  have han:a<n:=by omega
  have haq:a+q<n:=by omega
  have haq1:a+q+1≤n:=by omega
  have haq2:(a:Int)+(q:Int)<(n:Int):=by omega
  have haq3:(a:Int)+(q:Int)+1≤(n:Int):=by omega
  have HB0:=yh hb0
  have HZ:=yh hz
  have HA0:=yh h0
  have HRF:=yh hrf
  obtain ⟨T0,hT0⟩:∃ T0:Nat→Prop,T0=fun k =>S k∧k<w.heap.size:=⟨_,rfl⟩
  have htz:Tab (w.alloc (.cells #[.int .i64 0,.string ⟨#[]⟩,.int .u64 0,.slice none 0 0,.int .u64 0,.int .u64 0,.string ⟨#[]⟩] 41)) T0 bt N tl:=by rw [hT0];exact (hT.wide (fun k h1 h2 =>⟨h1,h2⟩)).keep (fun k hk _ =>hb0.block k hk.2)
  have HLEN:=yh (zDP T0 bt N tl (w.alloc (.cells #[.int .i64 0,.string ⟨#[]⟩,.int .u64 0,.slice none 0 0,.int .u64 0,.int .u64 0,.string ⟨#[]⟩] 41)) htz)
  have hq100:q≤100000:=by omega
  have htl1l:tl1.length≤tl.length+q:=by rw [htl1,hq];have:=zBc (ts.map List.tail) tl;rw [List.length_map] at this;omega
  have HTK:Hid (Calls Tryz.prog 116 #[.int .i64 ver,.pointer (some ⟨bt,0,none⟩),.slice (some (ad.add a)) (q+1) (c - a)] (w.alloc (.cells #[.int .i64 0,.string ⟨#[]⟩,.int .u64 0,.slice none 0 0,.int .u64 0,.int .u64 0,.string ⟨#[]⟩] 41)) fun e w' =>∃ (A':Option Addr) (n' c':Nat) (S':Nat→Prop),e=.returned (.agg #[.int .i64 r.kind,.string (tx r.target),.int .u64 r.rule,.slice A' n' c',.int .u64 r.out,.int .u64 r.time,.string (tx r.tag)])∧Deps w' (w.alloc (.cells #[.int .i64 0,.string ⟨#[]⟩,.int .u64 0,.slice none 0 0,.int .u64 0,.int .u64 0,.string ⟨#[]⟩] 41)).heap.size A' n' c' l∧(∀ ad,A'=some ad→¬ S' ad.block)∧Tab w' S' bt (N+q) tl1∧(∀ k,S' k→k<w'.heap.size∧(T0 k∨(w.alloc (.cells #[.int .i64 0,.string ⟨#[]⟩,.int .u64 0,.slice none 0 0,.int .u64 0,.int .u64 0,.string ⟨#[]⟩] 41)).heap.size≤k))∧Turn T0 (w.alloc (.cells #[.int .i64 0,.string ⟨#[]⟩,.int .u64 0,.slice none 0 0,.int .u64 0,.int .u64 0,.string ⟨#[]⟩] 41)) w'):=by
    have h1:=zFu T0 bt B N (q+1) (c - a) ver hver tl ts p (some (ad.add a)) (fun t ht =>(hts t ht).2) hpl (by omega) (by omega) (by omega) (by omega) (w.alloc (.cells #[.int .i64 0,.string ⟨#[]⟩,.int .u64 0,.slice none 0 0,.int .u64 0,.int .u64 0,.string ⟨#[]⟩] 41)) (by rw [hz];omega) htz ((hrf.turn (Turn.of_below hb0) hB).wide (fun k _ hk =>by rw [hT0] at hk;exact hk.1)) tl1 htl1
    rw [hrr,hll,← hq] at h1
    exact h1
  have HBW:=yh hB
  have HT0:=yh hT0
  have HQ:=yh hq
  have HPLN:=yh hpl2
  have HTLL:=yh htl1l
  have HQ100:Hid (q≤100000):=hq100
  have HFIT:=yh hfit
  have HNU:=yh hnu
  have hq1:a+q+1 - a=q+1:=by omega
  have HTL:=yh htl
  have HN:=yh hN
  clear htz hT0 hB hT hq hfit hnu htl hN hts hp hpl htl1 hrr hll htl1l hq100
  clear hr hrd hdrop htake hah hta h0 hz hb0 hlen hpl2 hrf
  go_enter Tryz.func103,Tryz.ntmps103
  go_wp2_with (go_at_call 115;refine HAH.out.mono ?_;rintro e w3 ⟨rfl,rfl⟩)
  go_wp2_with (go_at_call 86;refine HLEN.out.mono ?_;rintro e w3 ⟨rfl,rfl⟩)
  (
       refine HTK.out.mono ?_
       rintro e w4 ⟨A9,n9,c9,S9,rfl,hd9,hap9,ht9,hs9,htu9⟩
       have hz4:w4.heap[w.heap.size]? = some (.cells #[.int .i64 0,.string ⟨#[]⟩,.int .u64 0,.slice none 0 0,.int .u64 0,.int .u64 0,.string ⟨#[]⟩] 41 (0,0)):=(htu9.2.2.2.2 _ (by rw [HZ.out];omega) (fun h =>by rw [HT0.out] at h;omega)).trans HA0.out
       have f0:=zAA (i:=0) hz4 rfl
       have y0:=zAC (i:=0) hz4
       have f1:=zAA (i:=1) hz4 rfl
       have y1:=zAC (i:=1) hz4
       have f2:=zAA (i:=2) hz4 rfl
       have y2:=zAC (i:=2) hz4
       have f3:=zAA (i:=3) hz4 rfl
       have y3:=zAC (i:=3) hz4
       have f4:=zAA (i:=4) hz4 rfl
       have y4:=zAC (i:=4) hz4
       have f5:=zAA (i:=5) hz4 rfl
       have y5:=zAC (i:=5) hz4
       have f6:=zAA (i:=6) hz4 rfl
       have y6:=zAC (i:=6) hz4
       have hws:=(zAF (zAF (zAF (zAF (zAF (zAF (zAF hz4 0 (.int .i64 r.kind)) 1 (.string (tx r.target))) 2 (.int .u64 r.rule)) 3 (.slice A9 n9 c9)) 4 (.int .u64 r.out)) 5 (.int .u64 r.time)) 6 (.string (tx r.tag)))
       have htw:=((((((((Turn.refl (fun k =>k=w.heap.size) w4).setCell w.heap.size 0 (.int .i64 r.kind) rfl).setCell w.heap.size 1 (.string (tx r.target)) rfl).setCell w.heap.size 2 (.int .u64 r.rule) rfl).setCell w.heap.size 3 (.slice A9 n9 c9) rfl).setCell w.heap.size 4 (.int .u64 r.out) rfl).setCell w.heap.size 5 (.int .u64 r.time) rfl).setCell w.heap.size 6 (.string (tx r.tag)) rfl)
       have hnr:¬ S9 w.heap.size:=fun h =>by
         rcases (hs9 _ h).2 with h1 | h1
         · rw [HT0.out] at h1;omega
         · rw [HZ.out] at h1;omega
       have htw9:=ht9.turn htw (fun k hk _ h =>hnr (h▸hk))
       have hcut:=zEk S9 bt (N+q) tl1 (tl.length:Int) (by have:=HTLL.out;have:=HTL.out;have:=HQ100.out;omega) _ htw9
       rw [HTAKE.out] at hcut
       have HCUT:=yh hcut
       have HWS:=yh hws
       have HTW:=yh htw
       have HD9:=yh hd9
       have HAP9:=yh hap9
       have HS9:=yh hs9
       have HTU9:=yh htu9
       have HNR:=yh hnr
       clear hd9 hap9 ht9 hs9 htu9 hz4 hws htw hnr htw9 hcut)
  go_wp2_with (first
    | (go_at_call 117;first
       | (refine HCUT2.out.mono ?_
          rintro e w7 ⟨rfl,ht7,htu7⟩
          have hrec7:=(htu7.2.2.2.2 _ HLT6.out HN6.out).trans HREC6.out
          have HREC7:=yh hrec7
          have k0:=zAA (i:=0) hrec7 rfl;have m0:=zAC (i:=0) hrec7;have k1:=zAA (i:=1) hrec7 rfl;have m1:=zAC (i:=1) hrec7;have k2:=zAA (i:=2) hrec7 rfl;have m2:=zAC (i:=2) hrec7;have k3:=zAA (i:=3) hrec7 rfl;have m3:=zAC (i:=3) hrec7;have k4:=zAA (i:=4) hrec7 rfl;have m4:=zAC (i:=4) hrec7;have k5:=zAA (i:=5) hrec7 rfl;have m5:=zAC (i:=5) hrec7;have k6:=zAA (i:=6) hrec7 rfl;have m6:=zAC (i:=6) hrec7
          have HT7:=yh ht7
          have HTU7:=yh htu7
          clear hrec7 ht7 htu7)
       | (
       refine HCUT.out.mono ?_;clear HCUT
       rintro e w5 ⟨rfl,ht5,htu5⟩
       have hlt5:w.heap.size<w4.heap.size:=by have h1:=HTU9.out.2.2.2.1;rw [HZ.out] at h1;omega
       have hrec5:w5.heap[w.heap.size]? = some (.cells #[.int .i64 r.kind,.string (tx r.target),.int .u64 r.rule,.slice A9 n9 c9,.int .u64 r.out,.int .u64 r.time,.string (tx r.tag)] 41 (0,0)):=(htu5.2.2.2.2 _ (Nat.lt_of_lt_of_le hlt5 HTW.out.2.2.2.1) HNR.out).trans HWS.out
       have g0:=zAA (i:=0) hrec5 rfl
       have g1:=zAA (i:=1) hrec5 rfl
       have g2:=zAA (i:=2) hrec5 rfl
       have g3:=zAA (i:=3) hrec5 rfl
       have g4:=zAA (i:=4) hrec5 rfl
       have g5:=zAA (i:=5) hrec5 rfl
       have g6:=zAA (i:=6) hrec5 rfl
       have hown9:∀ g,(Value.slice A9 n9 c9).ownBlock=some g→g<w4.heap.size∧g≠w.heap.size∧¬ S9 g:=fun g hg =>by
         refine ⟨zAP HD9.out.1 g hg,fun h =>?_,fun h =>?_⟩
         · have h1:=zAG HD9.out.1 g hg
           rw [HZ.out] at h1
           omega
         · cases A9 with
           | none =>cases hg
           | some x =>exact HAP9.out x rfl (by have h1:x.block=g:=Option.some.inj hg;rw [h1];exact h)
       have hown5:=zAR (w':=w5) HD9.out.1 (fun g hg =>(htu5.2.2.2.2 g (Nat.lt_of_lt_of_le (hown9 g hg).1 HTW.out.2.2.2.1) (hown9 g hg).2.2).trans (HTW.out.2.2.2.2 g (hown9 g hg).1 (hown9 g hg).2.1))
       have HPUT:=yh (zFm S9 bt (N+q) n9 c9 ver tl r A9 l hm HFIT.out HNU.out (by have:=HTL.out;omega) (by have:=HN.out;have:=HQ100.out;omega) w5 ht5 (fun ad h1 _ =>HAP9.out ad h1) (zAD.of_own hown5))
       have HREC5:=yh hrec5
       have HTU5:=yh htu5
       have HLT5:=yh hlt5
       clear hrec5 hown5 hown9 htu5 ht5 hlt5))
    | (go_at_call 109
       refine HPUT.out.mono ?_
       rintro e w6 ⟨va6,S6,rfl,ht6,hs6,⟨vs6,hv6⟩,htu6⟩
       have ho6:=hv6.1
       rw [← HPN.out] at ho6
       obtain ⟨A6,c6,rfl,hc6⟩:=zAL ho6
       have hl5:w.heap.size<w5.heap.size:=zFL HREC5.out
       have hrec6:=(htu6.2.2.2.2 _ hl5 HNR.out).trans HREC5.out
       have HREC6:=yh hrec6
       have HLT6:Hid (w.heap.size<w6.heap.size):=zFL hrec6
       have HN6:Hid (¬ S6 w.heap.size):=fun h =>(by rcases (hs6 _ h).2 with h1 | h1;exact HNR.out h1;omega)
       have hs9b:∀ k,S9 k→S k∨w.heap.size+1≤k:=fun k hk =>by
         rcases (HS9.out k hk).2 with h1 | h1
         · rw [HT0.out] at h1;exact .inl h1.1
         · rw [HZ.out] at h1;exact .inr h1
       have hbw6:Turn S w w6:=((((Turn.of_below HB0.out).trans HTU9.out (fun k _ h =>by rw [HT0.out] at h;exact h.1)).trans HTW.out (fun k hk h =>by omega)).trans HTU5.out (fun k hk h =>(hs9b k h).resolve_right (by omega))).trans htu6 (fun k hk h =>(hs9b k h).resolve_right (by omega))
       have heqf:=zFW w6.heap.size B pn c6 (q+1) (c - a) A6 (some (ad.add a)) (payL ver tl r l) (ts++[p]) (by have:=HPN19.out;omega) (by have:=HQ100.out;omega) w6 (PlsC.of_rows HPN.out ⟨vs6,hv6⟩) (HRF.out.turn hbw6 HBW.out).less
       rw [decide_eq_false HNEQ.out] at heqf
       have HEQF:=yh heqf
       have hcut2:=zEk S6 bt (N+q+18) (tabT ver tl r l) (tl.length:Int) (by have:=zCs (tl:=tl) hm;have:=HTL.out;omega) w6 ht6
       rw [zIj] at hcut2
       have HCUT2:=yh hcut2
       have HTU6:=yh htu6
       have HS6:=yh hs6
       clear hrec6 hs9b hbw6 heqf hcut2 htu6 hs6 ht6 hv6 ho6 hc6 hl5)
    | (go_at_call 118
       refine HEQF.out.mono ?_
       rintro e w6b ⟨rfl,rfl⟩))
  have hfin:=(zAF (zAF (zAF (zAF (zAF (zAF (zAF HREC7.out 0 (.int .i64 0)) 1 (.string ⟨#[]⟩)) 2 (.int .u64 0)) 3 (.slice none 0 0)) 4 (.int .u64 0)) 5 (.int .u64 0)) 6 (.string ⟨#[]⟩))
  have htn:=((((((((Turn.refl (fun k =>k=w.heap.size) w7).setCell w.heap.size 0 (.int .i64 0) rfl).setCell w.heap.size 1 (.string ⟨#[]⟩) rfl).setCell w.heap.size 2 (.int .u64 0) rfl).setCell w.heap.size 3 (.slice none 0 0) rfl).setCell w.heap.size 4 (.int .u64 0) rfl).setCell w.heap.size 5 (.int .u64 0) rfl).setCell w.heap.size 6 (.string ⟨#[]⟩) rfl)
  refine bodyPost_ret (zAp rfl _ _ _ _ _ _ _ rfl hfin Tryz.underlying41 rfl (by kernel_rfl)) rfl ?_
  have hS9:∀ k,S9 k→S k∨w.heap.size+1≤k:=fun k hk =>by
    rcases (HS9.out k hk).2 with h1 | h1
    · rw [HT0.out] at h1;exact .inl h1.1
    · rw [HZ.out] at h1;exact .inr h1
  have h45:w.heap.size<w5.heap.size:=zFL HREC5.out
  have hS6:∀ k,S6 k→S k∨w.heap.size+1≤k:=fun k hk =>by
    rcases (HS6.out k hk).2 with h1 | h1
    · exact hS9 k h1
    · exact .inr (by omega)
  refine ⟨S6,rfl,⟨N+q+18,by have:=HQ100.out;omega,HT7.out.turn htn (fun k hk _ h =>HN6.out (h▸hk))⟩,fun k hk =>⟨?_,?_⟩,?_⟩
  · have h1:=(HS6.out k hk).1
    have h5:=HTU7.out.2.2.2.1
    have h6:=htn.2.2.2.1
    omega
  · rcases hS6 k hk with h | h
    · exact .inl h
    · exact .inr (by omega)
  · refine ((((((Turn.of_below HB0.out).trans HTU9.out (fun k _ h =>?_)).trans HTW.out (fun k hk h =>?_)).trans HTU5.out (fun k hk h =>?_)).trans HTU6.out (fun k hk h =>?_)).trans HTU7.out (fun k hk h =>?_)).trans htn (fun k hk h =>?_)
    · rw [HT0.out] at h;exact h.1
    · omega
    · rcases hS9 k h with h2 | h2
      · exact h2
      · omega
    · rcases hS9 k h with h2 | h2
      · exact h2
      · omega
    · rcases hS6 k h with h2 | h2
      · exact h2
      · omega
    · omega
def U64 (z:Int):Prop:=0≤z∧z<18446744073709551616
def zCB (m:Nat) (s:Rst):Prop:=s.r.target.length≤m∧s.r.tag.length≤m∧U64 s.r.rule∧U64 s.r.out∧U64 s.r.time∧∀ d ∈ s.l,d.name.length≤m∧U64 d.hash
theorem numU (c:Cu):U64 (c.num.1:Int):=zSv c
theorem zHU (ver:Int) (tl:List (List UInt8)) (m:Nat) (hm:64≤m) (c:Cu) (h:∀ s ∈ tl,s.length≤m):(zBJ ver tl c).1.length≤m:=by
 unfold zBJ
 split
 ·exact Nat.le_trans (zQD c) hm
 ·exact zFz tl _ m h
theorem zNf (ver:Int) (tl:List (List UInt8)) (m:Nat) (hm:64≤m) (c:Cu) (h:∀ s ∈ tl,s.length≤m):(zBv ver tl c).1.name.length≤m:=by
 unfold zBv
 split
 ·exact zHU ver tl m hm c h
 ·exact zFz tl _ m h
theorem zNH (ver:Int) (tl:List (List UInt8)) (m:Nat) (hm:64≤m) (h:∀ s ∈ tl,s.length≤m) {s:Rst} (hs:zCB m s):zCB m (zEo ver tl s):=by
 obtain ⟨h1,h2,h3,h4,h5,h6⟩:=hs
 refine ⟨h1,h2,h3,h4,h5,fun d hd =>?_⟩
 rcases List.mem_append.1 hd with h7 | h7
 ·exact h6 d h7
 ·obtain rfl:=List.mem_singleton.1 h7
  exact ⟨zNf ver tl m hm _ h,numU _⟩
theorem zIV (ver:Int) (tl:List (List UInt8)) (m:Nat) (hm:64≤m) (h:∀ s ∈ tl,s.length≤m) {s:Rst} (hs:zCB m s):∀ i,zCB m (zBf ver tl i s)∧(zBf ver tl i s).l.length=s.l.length+i
 | 0 =>⟨hs,rfl⟩
 | i+1 =>by
  obtain ⟨h1,h2⟩:=zIV ver tl m hm h hs i
  refine ⟨zNH ver tl m hm h h1,?_⟩
  show ((zBf ver tl i s).l++[_]).length=_
  rw [List.length_append,h2]
  rfl
theorem zNG (ver:Int) (tl:List (List UInt8)) (m:Nat) (hm:64≤m) (h:∀ s ∈ tl,s.length≤m) {s:Rst} (hs:zCB m s):zCB m (zBR ver tl s)∧(zBR ver tl s).l.length≤s.l.length+16:=by
 obtain ⟨h1,h2⟩:=zIV ver tl m hm h (s:=⟨s.r,s.l,s.c.num.2⟩) hs (min s.c.num.1 16)
 refine ⟨h1,?_⟩
 show (zBf ver tl (min s.c.num.1 16) ⟨s.r,s.l,s.c.num.2⟩).l.length≤_
 rw [h2]
 show s.l.length+_≤_
 omega
theorem zKS (ver:Int) (tl:List (List UInt8)) (m:Nat) (hm:64≤m) (h:∀ s ∈ tl,s.length≤m) {s:Rst} (hs:zCB m s):zCB m (zAv ver tl s) :=
 ⟨zHU ver tl m hm _ h,hs.2.1,hs.2.2.1,hs.2.2.2.1,hs.2.2.2.2.1,hs.2.2.2.2.2⟩
theorem zPD (ver:Int) (tl:List (List UInt8)) (m:Nat) (h:∀ s ∈ tl,s.length≤m) {s:Rst} (hs:zCB m s):zCB m (zDJ ver tl s):=by
 refine ⟨hs.1,?_,hs.2.2.1,hs.2.2.2.1,hs.2.2.2.2.1,hs.2.2.2.2.2⟩
 show (if s.c.num.1=0 then s.r.tag else zBC tl (s.c.num.1 - 1)).length≤m
 split
 ·exact hs.2.1
 ·exact zFz tl _ m h
theorem zRS (ver:Int) (tl:List (List UInt8)) (m:Nat) (hm:64≤m) (h:∀ s ∈ tl,s.length≤m) (k:Nat) {s:Rst} (hs:zCB m s):zCB m (zBi ver tl k s)∧(zBi ver tl k s).l.length≤s.l.length+16:=by
 unfold zBi
 have ht:=zKS ver tl m hm h hs
 split
 ·exact ⟨ht,Nat.le_add_right _ _⟩
 ·split
  ·have hr:zCB m (zBm ver tl (zAv ver tl s)):=⟨ht.1,ht.2.1,numU _,ht.2.2.2.1,ht.2.2.2.2.1,ht.2.2.2.2.2⟩
   obtain ⟨hd,hdl⟩:=zNG ver tl m hm h hr
   have ho:zCB m (zCa ver tl (zBR ver tl (zBm ver tl (zAv ver tl s)))):=⟨hd.1,hd.2.1,hd.2.2.1,numU _,hd.2.2.2.2.1,hd.2.2.2.2.2⟩
   have hw:zCB m (zCi ver tl (zCa ver tl (zBR ver tl (zBm ver tl (zAv ver tl s))))):=⟨ho.1,ho.2.1,ho.2.2.1,ho.2.2.2.1,numU _,ho.2.2.2.2.2⟩
   have hlen:(zBR ver tl (zBm ver tl (zAv ver tl s))).l.length≤s.l.length+16:=hdl
   simp only
   by_cases h2:ver<2
   ·rw [if_pos h2,if_pos (show ver<3 by omega)]
    exact ⟨ho,hlen⟩
   ·rw [if_neg h2]
    by_cases h3:ver<3
    ·rw [if_pos h3]
     exact ⟨hw,hlen⟩
    ·rw [if_neg h3]
     exact ⟨zPD ver tl m h hw,hlen⟩
  ·exact ⟨hs,Nat.le_add_right _ _⟩
theorem zML (m:Nat) (p:List UInt8):zCB m (zAY p):=⟨Nat.zero_le _,Nat.zero_le _,⟨Int.le_refl _,by show (0:Int)<_;omega⟩,⟨Int.le_refl _,by show (0:Int)<_;omega⟩,⟨Int.le_refl _,by show (0:Int)<_;omega⟩,fun d hd =>by cases hd⟩
theorem zOP {tl:List (List UInt8)} {s t:List UInt8} (h:t ∈ tput tl s):t ∈ tl∨t=s:=by
 by_cases hs:s ∈ tl
 ·rw [zDa hs] at h;exact .inl h
 ·rw [zCc hs] at h
  rcases List.mem_append.1 h with h | h
  ·exact .inl h
  ·exact .inr (List.mem_singleton.1 h)
theorem zEj (m:Nat):∀ (ns tl:List (List UInt8)),(∀ s ∈ tl,s.length≤m)→(∀ s ∈ ns,s.length≤m)→∀ s ∈ ns.foldl tput tl,s.length≤m
 | [],_,h,_ =>h
 | n :: ns,tl,h,hn =>zEj m ns (tput tl n) (fun s hs =>by
   rcases zOP hs with h1 | rfl
   ·exact h s h1
   ·exact hn _ (by simp)) (fun s hs =>hn s (by simp [hs]))
theorem zMR (m:Nat) (tl qs:List (List UInt8)) (j:Nat) (h:∀ s ∈ tl,s.length≤m) (hq:∀ s ∈ qs,s.length≤m):∀ s ∈ tblA tl qs j,s.length≤m:=by
 refine zEj m _ _ h fun s hs =>?_
 obtain ⟨q,hq1,rfl⟩:=List.mem_map.1 hs
 have:=hq q (List.mem_of_mem_take hq1)
 rw [List.length_tail];omega
def zCK (ver:Int) (tl found:List (List UInt8)) (r:Rc) (l:List Dp):Prop:=MayP ver r l∧Nums r l∧Fits r l∧payL ver tl r l=found
theorem zEz {ver:Int} {tl qs:List (List UInt8)} {j:Nat} {p:List UInt8} {r:Rc} {l:List Dp} (hp:qs[j]? = some p) (htl:tl.length+j≤1000000) (h:zCK ver tl (qs.take (j+1)) r l):zIu ver (tblA tl qs j) p=(r,l,true)∧tblA tl qs j=tabT ver tl r l:=by
 obtain ⟨h1,h2,h3,h4⟩:=h
 rw [List.take_add_one,hp] at h4
 unfold payL at h4
 obtain ⟨h5,h6⟩:=List.append_inj' h4 rfl
 have h7:payB ver (tabT ver tl r l) r l=p:=by simpa using h6
 have h8:tblA tl qs j=tabT ver tl r l:=by
  unfold tblA
  rw [← h5,zFh]
 rw [h8,← h7]
 refine ⟨zNO h1 h2 ?_ (zKC ver tl r l),rfl⟩
 rw [← h8]
 have:=zKD tl qs j
 omega
end Go.Proofs.YtekchkfjgofnkaaGreatDoor
