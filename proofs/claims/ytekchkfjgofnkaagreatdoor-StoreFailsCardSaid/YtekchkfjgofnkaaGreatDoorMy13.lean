/- Texts of one proof. -/
import Derived.Test.YtekchkfjgofnkaaGreatDoorMy12
set_option maxRecDepth 100000
set_option maxHeartbeats 8000000
namespace Go.Proofs.YtekchkfjgofnkaaGreatDoor
open Go.RowKit
def zBM (w:World) (base:Nat) (S:Nat→Prop) (va:Value) (ps:List (List UInt8)) (vs:List Value):Prop :=
 w.ownsRow base 59 1 va ps.length vs∧(∀ g,va.ownBlock=some g→¬ S g)∧vs.length=ps.length∧∀ (i:Nat) (p:List UInt8),ps[i]? = some p→∃ v,vs[i]? = some v∧w.ownsRow base 5 1 v p.length (p.map bv)∧(∀ g,v.ownBlock=some g→¬ S g)
def Rows (w:World) (base:Nat) (S:Nat→Prop) (va:Value) (ps:List (List UInt8)):Prop:=∃ vs,zBM w base S va ps vs
theorem zBM.turn {w w':World} {base:Nat} {S S2:Nat→Prop} {va:Value} {ps:List (List UInt8)} {vs:List Value} (h:zBM w base S va ps vs) (ht:Turn S2 w w') (hs:∀ k,k<w.heap.size→S2 k→S k):zBM w' base S va ps vs:=by
 obtain ⟨h1,h2,h3,h4⟩:=h
 refine ⟨zAR h1 (fun g hg =>ht.2.2.2.2 g (zAP h1 g hg) (fun h5 =>h2 g hg (hs g (zAP h1 g hg) h5))),h2,h3,fun i p hp =>?_⟩
 obtain ⟨v,h5,h6,h7⟩:=h4 i p hp
 exact ⟨v,h5,zAR h6 (fun g hg =>ht.2.2.2.2 g (zAP h6 g hg) (fun h8 =>h7 g hg (hs g (zAP h6 g hg) h8))),h7⟩
theorem zBM.below {w w':World} {base:Nat} {S:Nat→Prop} {va:Value} {ps:List (List UInt8)} {vs:List Value} (h:zBM w base S va ps vs) (hb:Below w.heap.size w w'):zBM w' base S va ps vs:=h.turn (S2:=fun _ =>False) (Turn.of_below hb) (fun _ _ h =>h.elim)
theorem zBM.set {w:World} {base:Nat} {S S2:Nat→Prop} {va:Value} {ps:List (List UInt8)} {vs:List Value} (h:zBM w base S va ps vs) (hs:∀ k,k<w.heap.size→S2 k→S k):zBM w base S2 va ps vs:=by
 obtain ⟨h1,h2,h3,h4⟩:=h
 refine ⟨h1,fun g hg h5 =>h2 g hg (hs g (zAP h1 g hg) h5),h3,fun i p hp =>?_⟩
 obtain ⟨v,h5,h6,h7⟩:=h4 i p hp
 exact ⟨v,h5,h6,fun g hg h8 =>h7 g hg (hs g (zAP h6 g hg) h8)⟩
theorem zBM.push {w w':World} {base:Nat} {S:Nat→Prop} {va va' v:Value} {ps:List (List UInt8)} {p:List UInt8} {vs:List Value} (h:zBM w base S va ps vs) (hv:w.ownsRow base 5 1 v p.length (p.map bv)) (hvs:∀ g,v.ownBlock=some g→¬ S g)
  (ho:w'.ownsRow base 59 1 va' (ps.length+1) (vs++[v])) (hg:w.grownBy w' va.ownBlock) (he:va'.ownBlock=va.ownBlock∨va'.ownBlock=some w.heap.size) (hn:¬ S w.heap.size):zBM w' base S va' (ps++[p]) (vs++[v]):=by
 obtain ⟨h1,h2,h3,h4⟩:=h
 refine ⟨by rw [List.length_append];exact ho,fun g h5 =>?_,by simp [h3],fun i q hq =>?_⟩
 ·rcases he with he | he
  ·exact h2 g (he▸h5)
  ·rw [he] at h5
   obtain rfl:w.heap.size=g:=by simpa using h5
   exact hn
 ·rcases Nat.lt_or_ge i ps.length with hlt | hge
  ·rw [List.getElem?_append_left hlt] at hq
   obtain ⟨u,h5,h6,h7⟩:=h4 i q hq
   exact ⟨u,by rw [List.getElem?_append_left (by rw [h3];exact hlt)];exact h5,zBL h6 (zBE h1 h6 (by decide)) hg,h7⟩
  ·have hi:i=ps.length:=by
    rcases Nat.lt_or_ge (i - ps.length) 1 with h5 | h5
    ·omega
    ·rw [List.getElem?_append_right hge,List.getElem?_eq_none (by simpa using h5)] at hq;cases hq
   subst hi
   obtain rfl:p=q:=by simpa using hq
   exact ⟨v,by rw [← h3];simp,zBL hv (zBE h1 hv (by decide)) hg,hvs⟩
theorem zJq (w:World) (base:Nat) (S:Nat→Prop):zBM w base S (.slice none 0 0) [] []:=⟨World.ownsRow_nil _ _ _ _,fun g hg =>by simp [Value.ownBlock] at hg,rfl,by simp⟩
def zBA:List (List UInt8)→List (List UInt8)→List (List UInt8)
 | _,[] =>[]
 | tl,s :: ns =>if s ∈ tl then zBA tl ns else (0 :: s) :: zBA (tl++[s]) ns
theorem zEd:∀ (ns tl:List (List UInt8)) (s:List UInt8),zBA tl (ns++[s])=zBA tl ns++(if s ∈ ns.foldl tput tl then [] else [0 :: s])
 | [],tl,s =>by
  show (if s ∈ tl then [] else [0 :: s])=[]++(if s ∈ tl then [] else [0 :: s])
  simp
 | a :: ns,tl,s =>by
  show (if a ∈ tl then zBA tl (ns++[s]) else (0 :: a) :: zBA (tl++[a]) (ns++[s]))=(if a ∈ tl then zBA tl ns else (0 :: a) :: zBA (tl++[a]) ns)++(if s ∈ ns.foldl tput (tput tl a) then [] else [0 :: s])
  by_cases h:a ∈ tl
  ·rw [if_pos h,if_pos h,zEd,zDa h]
  ·rw [if_neg h,if_neg h,zEd,zCc h]
   rfl
theorem zDt:∀ (ns tl:List (List UInt8)),(zBA tl ns).length≤ns.length
 | [],_ =>by simp [zBA]
 | a :: ns,tl =>by
  unfold zBA
  split
  ·have:=zDt ns tl;simp;omega
  ·have:=zDt ns (tl++[a]);simp;omega
def zSi (S:Nat→Prop) (bt N:Nat) (tl ns:List (List UInt8)) (w:World) (vn va idx:Value) (wr:World):Prop :=
 ∃ (i:Nat) (S':Nat→Prop) (va':Value),va'=va∧i≤ns.length∧idx=.int .i64 (i:Int)∧Tab wr S' bt (N+i) ((ns.take i).foldl tput tl)∧(∀ k,S' k→k<wr.heap.size∧(S k∨w.heap.size≤k))∧wr.ownsRow w.heap.size 9 1 vn ns.length (ns.map tsv)∧(∀ g,vn.ownBlock=some g→¬ S' g)∧Rows wr w.heap.size S' va' (zBA tl (ns.take i))∧Turn S w wr
theorem zMw (S:Nat→Prop) (bt N n c:Nat) (ver:Int) (hv:¬ ver<2) (tl:List (List UInt8)) (r:Rc) (A:Option Addr) (l:List Dp) (hn:n≤1000) (hfit:Fits r l) (hnl:∀ s ∈ zBK r l,s.length≤64) (htl:tl.length≤1000000000) (hN:N≤1000000000) (hns:(zBK r l).length≤2000) (w:World) (hT:Tab w S bt N tl) (hr:zAD w w.heap.size 3 A n (dps l)) :
  Calls Tryz.prog 132 #[.int .i64 ver,.pointer (some ⟨bt,0,none⟩),.agg #[.int .i64 r.kind,.string (tx r.target),.int .u64 r.rule,.slice A n c,.int .u64 r.out,.int .u64 r.time,.string (tx r.tag)]] w fun e w' =>∃ (va:Value) (S':Nat→Prop),e=.returned va∧Tab w' S' bt (N+(zBK r l).length) ((zBK r l).foldl tput tl)∧(∀ k,S' k→k<w'.heap.size∧(S k∨w.heap.size≤k))∧Rows w' w.heap.size S' va (zBA tl (zBK r l))∧Turn S w w':=by
 obtain ⟨i0,ii0,iz0,iz1,iz2⟩:=info_parts (show (Tryz.prog.info? 59).map (fun i =>(i.zero,i.size,i.bytes))=some (some (.slice none 0 0),1,24) from by kernel_rfl)
 obtain ⟨i5,ji0,jz0,jz1,jz2⟩:=info_parts zHP
 have hz:(w.alloc (.cells #[.int .i64 r.kind,.string (tx r.target),.int .u64 r.rule,.slice A n c,.int .u64 r.out,.int .u64 r.time,.string (tx r.tag)] 41)).heap.size=w.heap.size+1:=by simp
 have hb0:=(Below.refl w.heap.size w).alloc (Nat.le_refl _) (.cells #[.int .i64 r.kind,.string (tx r.target),.int .u64 r.rule,.slice A n c,.int .u64 r.out,.int .u64 r.time,.string (tx r.tag)] 41)
 have h0:=zAE w (.cells #[.int .i64 r.kind,.string (tx r.target),.int .u64 r.rule,.slice A n c,.int .u64 r.out,.int .u64 r.time,.string (tx r.tag)] 41)
 have HNAMES:=yh (zNX r A n c l hn hfit (w.alloc (.cells #[.int .i64 r.kind,.string (tx r.target),.int .u64 r.rule,.slice A n c,.int .u64 r.out,.int .u64 r.time,.string (tx r.tag)] 41)) ((hr.below hb0).more (by rw [hz];omega)))
 unfold rcv rsv at HNAMES
 have q0:=zAA (i:=0) h0 rfl
 have q1:=zAA (i:=1) h0 rfl
 have q2:=zAA (i:=2) h0 rfl
 have q3:=zAA (i:=3) h0 rfl
 have q4:=zAA (i:=4) h0 rfl
 have q5:=zAA (i:=5) h0 rfl
 have q6:=zAA (i:=6) h0 rfl
 have d1:decide (ver<2)=false:=decide_eq_false hv
 obtain ⟨ns,hnse⟩:∃ ns,ns=zBK r l:=⟨_,rfl⟩
 rw [← hnse] at HNAMES hnl hns ⊢
 obtain ⟨m,hm⟩:∃ m,m=ns.length:=⟨_,rfl⟩
 have HM:=yh hm
 have HNL:=yh hnl
 have HT:=yh hT
 have HB0:=yh hb0
 have HZ:=yh hz
 have hm2:m≤2000:=by omega
 have HTL:=yh htl
 have HNN:=yh hN
 clear h0 hb0 hz hT hr hv hnl hns hnse hm hfit htl hN
 go_enter Tryz.func132,Tryz.ntmps132
 go_wp2_with (go_at_call 154;refine HNAMES.out.mono ?_;rintro e w5 ⟨v5,rfl,ho5,hb5⟩;unfold Own at ho5;rw [← HM.out] at ho5;obtain ⟨A5,c5,rfl,hc5⟩:=zAL ho5;have HO5:=yh ho5;have HB5:=yh (HB0.out.trans (hb5.mono HB0.out.size));clear ho5 hb5)
 go_loopw [7,17] (fun va idx wr =>zSi S bt N tl ns w (.slice A5 m c5) va idx wr) (fun va idx wr =>m - (intOf idx).toNat)
 case atStart =>
  refine ⟨0,fun k =>S k∧k<w.heap.size,_,rfl,by omega,rfl,?_,fun k hk =>⟨by have h1:=HB5.out.size;omega,.inl hk.1⟩,?_,?_,⟨[],zJq _ _ _⟩,Turn.of_below HB5.out⟩
  ·exact (HT.out.wide (fun k h1 h2 =>⟨h1,h2⟩)).keep (fun k hk _ =>HB5.out.block k hk.2)
  ·rw [← HM.out]
   exact zAT HO5.out (by rw [HZ.out];omega)
  ·exact zHz HO5.out (fun k hk =>by rw [HZ.out];omega)
 case round =>
  obtain ⟨i,S',va,rfl,hi,rfl,ht,hs',hon,hgn,hrows,htu⟩:=hrel
  rw [← HM.out] at hi hon
  have HON:=yh hon
  have HTU:=yh htu
  have HS':=yh hs'
  by_cases hlt:i<m
  ·obtain ⟨vs,hvs⟩:=hrows
   have HVS:=yh hvs
   obtain ⟨s,hs⟩:∃ s,ns[i]? = some s:=⟨_,List.getElem?_eq_getElem (by rw [← HM.out];exact hlt)⟩
   obtain ⟨ad,rfl,_,hcx⟩:=(zAD.of_own hon).2 (by omega)
   have k0:=hcx i (tsv s) (by rw [List.getElem?_map,hs];rfl)
   have hsl:=HNL.out s (List.mem_of_getElem? hs)
   have htk:(ns.take (i+1)).foldl tput tl=tput ((ns.take i).foldl tput tl) s:=by rw [List.take_add_one,hs,List.foldl_append];rfl
   have hfl:zBA tl (ns.take (i+1))=zBA tl (ns.take i)++(if s ∈ (ns.take i).foldl tput tl then [] else [0 :: s]):=by rw [List.take_add_one,hs];exact zEd _ _ _
   have HTK:=yh htk
   have HFL:=yh hfl
   have hlen:=zBc (ns.take i) tl
   have hlen2:=zDt (ns.take i) tl
   rw [List.length_take] at hlen hlen2
   have HID:=yh (zFb S' bt (N+i) _ s (by unfold maxLen;omega) (by have:=HTL.out;omega) (by have:=HNN.out;omega) wr ht)
   unfold tsv at k0 HID
   obtain ⟨q,hq⟩:∃ q,q=decide (s ∈ (ns.take i).foldl tput tl):=⟨_,rfl⟩
   rw [← hq] at HID
   have HQ:=yh hq
   have hssz:(tx s).size=s.length:=zDb s
   have HSSZ:=yh hssz
   have HSL:=yh hsl
   have HLEN2:Hid ((zBA tl (ns.take i)).length≤2000):=by show _≤_;omega
   -- behind ID: the table's set,cut off at what there is
   have BEH:Hid (∀ w6,Tab w6 (fun k =>S' k∨wr.heap.size≤k) bt (N+i+1) (tput ((ns.take i).foldl tput tl) s)→Turn S' wr w6→(Tab w6 (fun k =>(S' k∨wr.heap.size≤k)∧k<w6.heap.size) bt (N+(i+1)) ((ns.take (i+1)).foldl tput tl)∧(∀ k,((S' k∨wr.heap.size≤k)∧k<w6.heap.size)→k<w6.heap.size∧(S k∨w.heap.size≤k))∧w6.ownsRow w.heap.size 9 1 (.slice (some ad) m c5) m (ns.map tsv)∧(∀ g,(Value.slice (some ad) m c5).ownBlock=some g→¬ ((S' g∨wr.heap.size≤g)∧g<w6.heap.size))∧Turn S w w6∧zBM w6 w.heap.size (fun k =>(S' k∨wr.heap.size≤k)∧k<w6.heap.size) va (zBA tl (ns.take i)) vs)):=fun w6 h1 h2 =>by
    refine ⟨by rw [HTK.out];exact (h1.wide (fun k a b =>⟨a,b⟩)),fun k hk =>⟨hk.2,?_⟩,zAR HON.out (fun g hg =>h2.2.2.2.2 g (zAP HON.out g hg) (hgn g hg)),fun g hg h3 =>?_,htu.trans h2 (fun k h3 h4 =>?_),?_⟩
    ·rcases hk.1 with h3 | h3
     ·exact (HS'.out k h3).2
     ·exact .inr (by have:=htu.2.2.2.1;omega)
    ·rcases h3.1 with h4 | h4
     ·exact hgn g hg h4
     ·have:=zAP HON.out g hg;omega
    ·rcases (HS'.out k h4).2 with h5 | h5
     ·exact h5
     ·omega
    ·obtain ⟨e1,e2,e3,e4⟩:=HVS.out
     obtain ⟨g1,g2,g3,g4⟩:=HVS.out.turn h2 (fun _ _ h =>h)
     refine ⟨g1,fun g hg h5 =>?_,g3,fun j p hp =>?_⟩
     ·rcases h5.1 with h6 | h6
      ·exact g2 g hg h6
      ·have:=zAP e1 g hg;omega
     ·obtain ⟨v,f1,f2,f3⟩:=g4 j p hp
      obtain ⟨v',c1,c2,c3⟩:=e4 j p hp
      obtain rfl:v=v':=by rw [f1] at c1;exact Option.some.inj c1
      refine ⟨v,f1,f2,fun g hg h5 =>?_⟩
      rcases h5.1 with h6 | h6
      ·exact f3 g hg h6
      ·have:=zAP c2 g hg;omega
   have hi0:(0:Int)≤(i:Int):=by omega
   have hi1:(i:Int)<(m:Int):=by omega
   clear hcx hs htk hfl hlen hlen2 ht hs' hon hgn hvs htu hq hssz hsl
   cases q with
   | true =>
    have HIN:=yh (of_decide_eq_true HQ.out.symm)
    go_wp2_with (go_at_call 107;refine HID.out.mono ?_;rintro e w6 ⟨rfl,ht6,htu6⟩;have HB:=yh (BEH.out w6 ht6 htu6);clear ht6 htu6)
    refine ⟨⟨i+1,_,_,rfl,by rw [← HM.out];omega,by go_num,HB.out.1,HB.out.2.1,by rw [← HM.out];exact HB.out.2.2.1,HB.out.2.2.2.1,?_,HB.out.2.2.2.2.1⟩,by simp [intOf];omega⟩
    rw [HFL.out,if_pos HIN.out,List.append_nil]
    exact ⟨vs,HB.out.2.2.2.2.2⟩
   | false =>
    have HIN:=yh (of_decide_eq_false HQ.out.symm)
    go_wp2_with (first
     | (at_builtin;refine zCe _ rfl (.tmp 28) (.tmp 32) 123 rfl w.heap.size 59 i0 _ 1 24 Tryz.underlying123 ii0 iz0 iz1 iz2 rfl (by decide) va _ vs rfl HRV9.out.1 (some ⟨w8.heap.size,0,none⟩) 1 1 (w8.heap.size+1) [.slice A8 (1+s.length) c8] rfl (by simp) HR9.out (fun u hu =>by obtain rfl:=List.mem_singleton.1 hu;rfl) (by have:=HLEN2.out;unfold maxLen;omega) (by have:=HLEN2.out;omega) (by have h1:=HB9.out.size;have h2:=HB.out.2.2.2.2.1.2.2.2.1;omega) ?_;intro v10 w10 ho10 hg10 hv10;have HO10:=yh ho10;have HG10:=yh hg10;have HV10:=yh hv10;clear ho10 hg10 hv10)
     | (at_builtin;have ho7:=zBO (base:=w6.heap.size) (cap:=1) (n:=1) (cs:=[bv 0]) (xs:=[bv 0]) (Nat.le_refl _) (zAE w6 (.cells #[.int .u8 0] 5)) (Nat.le_refl _) (by unfold maxLen;omega) rfl rfl;refine Lib.wpList_append_own_string _ rfl (.tmp 29) (.tmp 30) 59 9 rfl w6.heap.size 5 i5 Tryz.underlying59 Tryz.underlying9 ji0 jz0 jz1 jz2 (.slice (some ⟨w6.heap.size,0,none⟩) 1 1) 1 [bv 0] rfl ho7 (tx s) rfl (by rw [HSSZ.out];have:=HSL.out;unfold maxLen;omega) (by rw [HSSZ.out];have:=HSL.out;omega) (by simp) ?_;intro v8 w8 ho8 hg8 _;rw [HSSZ.out,zGX] at ho8;obtain ⟨A8,c8,rfl,hc8⟩:=zAL ho8;have HO8:=yh (World.ownsRow.alloc ho8 (.cells #[.slice A8 (1+s.length) c8] 59));have HC8:=yh hc8;have HB9:=yh ((((Below.refl w6.heap.size w6).alloc (Nat.le_refl _) (.cells #[.int .u8 0] 5)).grown hg8 (by simp) (fun g hg =>by have h1:w6.heap.size=g:=(by simpa [Value.ownBlock] using hg);omega)).alloc (by have h1:=hg8.size;simp at h1;omega) (.cells #[.slice A8 (1+s.length) c8] 59));have HR9:=yh (zFY w8 59 (.slice A8 (1+s.length) c8));have HRV9:=yh (HB.out.2.2.2.2.2.below HB9.out);clear ho7 ho8 hg8 hc8)
     | (go_at_call 107;refine HID.out.mono ?_;rintro e w6 ⟨rfl,ht6,htu6⟩;have HB:=yh (BEH.out w6 ht6 htu6);clear ht6 htu6))
    have htu10:Turn (fun k =>va.ownBlock=some k) w6 w10:=(Turn.of_below HB9.out).grown HG10.out (fun k hk _ =>hk)
    have hvb:=HB.out.2.2.2.2.2.2.1
    refine ⟨⟨i+1,_,_,rfl,by rw [← HM.out];omega,by go_num,HB.out.1.turn htu10 (fun k h1 _ h2 =>hvb k h2 h1),fun k hk =>⟨Nat.lt_of_lt_of_le hk.2 htu10.2.2.2.1,(HB.out.2.1 k hk).2⟩,by rw [← HM.out];exact zAR HB.out.2.2.1 (fun g hg =>htu10.2.2.2.2 g (zAP HB.out.2.2.1 g hg) (fun h =>zBE HB.out.2.2.1 HB.out.2.2.2.2.2.1 (by decide) g hg h)),HB.out.2.2.2.1,?_,HB.out.2.2.2.2.1.trans htu10 (fun k h1 h2 =>by have:=zAG HB.out.2.2.2.2.2.1 k h2;omega)⟩,by simp [intOf];omega⟩
    rw [HFL.out,if_neg HIN.out]
    refine ⟨_,HRV9.out.push (v:=.slice A8 (1+s.length) c8) (p:=0 :: s) ?_ ?_ HO10.out HG10.out HV10.out ?_⟩
    ·have h1:=zAT HO8.out (show w.heap.size≤w6.heap.size from HB.out.2.2.2.2.1.2.2.2.1)
     rw [show (0 :: s).length=1+s.length by simp;omega]
     exact h1
    ·exact zHz HO8.out (fun k hk =>hk.2)
    ·intro h
     have h1:=HB9.out.size
     have h2:=h.2
     omega
  ·obtain rfl:i=m:=by omega
   rw [HM.out,List.take_length] at ht hrows
   have HTT:=yh ht
   have HRR:=yh hrows
   clear ht hrows hs' hon hgn htu
   go_wp2
   go_ret
   exact ⟨_,S',rfl,HTT.out,HS'.out,HRR.out,HTU.out⟩
def tabT (ver:Int) (tl:List (List UInt8)) (r:Rc) (l:List Dp):List (List UInt8):=if ver<2 then tl else (zBK r l).foldl tput tl
def freT (ver:Int) (tl:List (List UInt8)) (r:Rc) (l:List Dp):List (List UInt8):=if ver<2 then [] else zBA tl (zBK r l)
def payB (ver:Int) (tl:List (List UInt8)) (r:Rc) (l:List Dp):List UInt8 :=
 if r.kind=2 then 2 :: nmB ver tl r.target
 else 1 :: (nmB ver tl r.target++(vb r.rule.toNat++(zBu ver tl l++(vb r.out.toNat++((if ver<2 then [] else vb r.time.toNat)++(if ver<3 then [] else fTag tl r))))))
def payL (ver:Int) (tl:List (List UInt8)) (r:Rc) (l:List Dp):List (List UInt8):=freT ver tl r l++[payB ver (tabT ver tl r l) r l]
theorem zBZ {v:Int} {r:Rc} {l:List Dp} (h:MayP v r l):r.target.length≤64∧r.tag.length≤64∧l.length≤16∧∀ d ∈ l,d.name.length≤64:=by
 obtain ⟨_,_,ht,h⟩:=h
 have h0:r.target.length≤64:=(of_decide_eq_true ht).2
 rcases h with ⟨_,_,hg,hd⟩ | ⟨_,hr,hl⟩
 ·refine ⟨h0,?_,hd.1,fun d hm =>?_⟩
  ·rcases hg with hg | hg
   ·rw [hg];simp
   ·exact hg.2
  ·exact (of_decide_eq_true (hd.2.1 d hm).1).2
 ·refine ⟨h0,?_,by rw [hl];simp,by rw [hl];simp⟩
  rw [hr];simp
theorem zRm {ts:List (List UInt8)} {s:List UInt8} (h:s ∈ tnew ts):s ∈ ts:=by
 have key:∀ (ts l:List (List UInt8)),s ∈ ts.foldl tput l→s ∈ l∨s ∈ ts:=by
  intro ts
  induction ts with
  | nil =>intro l h;exact .inl h
  | cons a ts ih =>
   intro l h
   rcases ih (tput l a) h with h | h
   ·unfold tput at h
    split at h
    ·exact .inl h
    ·rcases List.mem_append.1 h with h | h
     ·exact .inl h
     ·exact .inr (by simp at h;simp [h])
   ·exact .inr (by simp [h])
 rcases key ts [] h with h | h
 ·simp at h
 ·exact h
theorem zDA {v:Int} {r:Rc} {l:List Dp} (h:MayP v r l):(∀ s ∈ zBK r l,s.length≤64)∧(zBK r l).length≤18:=by
 obtain ⟨h1,h2,h3,h4⟩:=zBZ h
 refine ⟨fun s hs =>?_,?_⟩
 ·have hm:=zRm hs
  rcases List.mem_append.1 hm with hm | hm
  ·rcases List.mem_cons.1 hm with rfl | hm
   ·exact h1
   ·obtain ⟨d,hd,rfl⟩:=List.mem_map.1 hm
    exact h4 d hd
  ·split at hm
   ·simp at hm
   ·obtain rfl:s=r.tag:=by simpa using hm
    exact h2
 ·have:=zFT (r.target :: names l++(if r.tag=[] then [] else [r.tag]))
  unfold zBK
  have h5:(r.target :: names l++(if r.tag=[] then [] else [r.tag])).length≤18:=by
   rw [List.length_append,List.length_cons,show (names l).length=l.length from List.length_map _]
   split <;> simp <;> omega
  omega
theorem zIJ {ver:Int} {tl:List (List UInt8)} {l:List Dp} (hl:l.length≤16) (hd:∀ d ∈ l,d.name.length≤64) (hh:∀ d ∈ l,0≤d.hash∧d.hash<18446744073709551616) (ht:tl.length≤1073741824):(zBu ver tl l).length≤10000:=by
 unfold zBu
 rw [List.length_append]
 have h1:=zHF ver tl l (m:=l.length) hd hh ht
 rw [List.take_length] at h1
 have h2:=zBQ l.length (zAm (by omega))
 omega
theorem zJM {tl:List (List UInt8)} {r:Rc} (ht:tl.length≤1073741824):(fTag tl r).length≤10:=by
 unfold fTag
 split
 ·exact zBQ 0 (zAm (by omega))
 ·exact zBQ _ (zAm (by have:=zBS (s:=r.tag) ht;omega))
theorem zPK {v:Int} {r:Rc} {l:List Dp} (h:MayP v r l):(r.kind=1∧1≤v∧v≤3)∨r.kind=2:=by
 obtain ⟨h1,h2,_,h⟩:=h
 rcases h with ⟨h,_⟩ | ⟨h,_⟩
 ·exact .inl ⟨h,h1,h2⟩
 ·exact .inr h
theorem zKn (T:Nat→Prop) (bt N n c:Nat) (ver:Int) (tl:List (List UInt8)) (r:Rc) (A:Option Addr) (l:List Dp) (hm:MayP ver r l) (hnu:Nums r l) (htl:tl.length≤1073741824) (w:World) (hT:Tab w T bt N tl) (hr:zAD w w.heap.size 3 A n (dps l)) :
  Calls Tryz.prog 133 #[.int .i64 ver,.pointer (some ⟨bt,0,none⟩),rcv r A n c] w fun e w' =>∃ v,e=.returned v∧w'.ownsRow w.heap.size 5 1 v (payB ver tl r l).length ((payB ver tl r l).map bv)∧Below w.heap.size w w':=by
 obtain ⟨h1,h2,h3,h4⟩:=zBZ hm
 have hn:n≤1000:=by have:=hr.1;rw [zAn] at this;omega
 have hvt:=zBQ _ (zAc hnu.1).2
 have hvo:=zBQ _ (zAc hnu.2.1).2
 have hvw:=zBQ _ (zAc hnu.2.2.1).2
 have hnm:=zHv (ver:=ver) h1 htl
 have hfd:=zIJ (ver:=ver) h3 h4 hnu.2.2.2 htl
 have hfg:=zJM (r:=r) htl
 have L0:∀ (S T:Nat→Prop) (B:Nat),Lays 155 S (w.heap.size+1+1) ver bt w.heap.size (fun W =>Env W S T bt N tl w.heap.size r A n c l B) (nmB ver tl r.target):=fun S T B =>zKW S T _ bt N _ n c B ver tl r A l htl h1
 have L1:∀ (S T:Nat→Prop) (B:Nat),Lays 156 S (w.heap.size+1+1) ver bt w.heap.size (fun W =>Env W S T bt N tl w.heap.size r A n c l B) (vb r.rule.toNat):=fun S T B =>zNQ S T _ bt N _ n c B ver tl r A l hnu
 have L2:∀ (S T:Nat→Prop) (B:Nat),Lays 157 S (w.heap.size+1+1) ver bt w.heap.size (fun W =>Env W S T bt N tl w.heap.size r A n c l B) (zBu ver tl l):=fun S T B =>zNP S T _ bt N _ n c B ver tl r A l htl hnu h4 hn
 have L3:∀ (S T:Nat→Prop) (B:Nat),Lays 158 S (w.heap.size+1+1) ver bt w.heap.size (fun W =>Env W S T bt N tl w.heap.size r A n c l B) (vb r.out.toNat):=fun S T B =>zPN S T _ bt N _ n c B ver tl r A l hnu
 have L4:∀ (S T:Nat→Prop) (B:Nat),Lays 159 S (w.heap.size+1+1) ver bt w.heap.size (fun W =>Env W S T bt N tl w.heap.size r A n c l B) (vb r.time.toNat):=fun S T B =>zNR S T _ bt N _ n c B ver tl r A l hnu
 have L5:∀ (S T:Nat→Prop) (B:Nat),Lays 160 S (w.heap.size+1+1) ver bt w.heap.size (fun W =>Env W S T bt N tl w.heap.size r A n c l B) (fTag tl r):=fun S T B =>zPO S T _ bt N _ n c B ver tl r A l htl h2
 rcases zPK hm with ⟨hk,hv1,hv2⟩ | hk
 ·have hv:ver=1∨ver=2∨ver=3:=by omega
  rcases hv with rfl | rfl | rfl
  ·have hp:payB 1 tl r l=1 :: flat [(155,nmB 1 tl r.target),(156,vb r.rule.toNat),(157,zBu 1 tl l),(158,vb r.out.toNat)]:=by
    unfold payB
    rw [if_neg (by omega)]
    simp [flat]
   rw [hp]
   refine zDN T bt N n c 1 tl r A l 1 hk (by decide) [(155,nmB 1 tl r.target),(156,vb r.rule.toNat),(157,zBu 1 tl l),(158,vb r.out.toNat)] (by simp) ?_ ?_ w hT hr ?_ ?_
   ·intro x hx
    simp only [List.mem_cons,List.not_mem_nil,or_false] at hx
    rcases hx with rfl | rfl | rfl | rfl <;> (simp only [];omega)
   ·intro x hx
    simp only [List.mem_cons,List.not_mem_nil,or_false] at hx
    rcases hx with rfl | rfl | rfl | rfl <;> simp
   ·intro W
    rw [hk]
    exact zQW 155 156 157 158 159 160 (.pointer (some ⟨w.heap.size+1+1,0,none⟩)) W
   ·intro x hx S T B
    simp only [List.mem_cons,List.not_mem_nil,or_false] at hx
    rcases hx with rfl | rfl | rfl | rfl
    ·exact L0 S T B
    ·exact L1 S T B
    ·exact L2 S T B
    ·exact L3 S T B
  ·have hp:payB 2 tl r l=1 :: flat [(155,nmB 2 tl r.target),(156,vb r.rule.toNat),(157,zBu 2 tl l),(158,vb r.out.toNat),(159,vb r.time.toNat)]:=by
    unfold payB
    rw [if_neg (by omega)]
    simp [flat]
   rw [hp]
   refine zDN T bt N n c 2 tl r A l 1 hk (by decide) [(155,nmB 2 tl r.target),(156,vb r.rule.toNat),(157,zBu 2 tl l),(158,vb r.out.toNat),(159,vb r.time.toNat)] (by simp) ?_ ?_ w hT hr ?_ ?_
   ·intro x hx
    simp only [List.mem_cons,List.not_mem_nil,or_false] at hx
    rcases hx with rfl | rfl | rfl | rfl | rfl <;> (simp only [];omega)
   ·intro x hx
    simp only [List.mem_cons,List.not_mem_nil,or_false] at hx
    rcases hx with rfl | rfl | rfl | rfl | rfl <;> simp
   ·intro W
    rw [hk]
    exact zQX 155 156 157 158 159 160 (.pointer (some ⟨w.heap.size+1+1,0,none⟩)) W
   ·intro x hx S T B
    simp only [List.mem_cons,List.not_mem_nil,or_false] at hx
    rcases hx with rfl | rfl | rfl | rfl | rfl
    ·exact L0 S T B
    ·exact L1 S T B
    ·exact L2 S T B
    ·exact L3 S T B
    ·exact L4 S T B
  ·have hp:payB 3 tl r l=1 :: flat [(155,nmB 3 tl r.target),(156,vb r.rule.toNat),(157,zBu 3 tl l),(158,vb r.out.toNat),(159,vb r.time.toNat),(160,fTag tl r)]:=by
    unfold payB
    rw [if_neg (by omega)]
    simp [flat]
   rw [hp]
   refine zDN T bt N n c 3 tl r A l 1 hk (by decide) [(155,nmB 3 tl r.target),(156,vb r.rule.toNat),(157,zBu 3 tl l),(158,vb r.out.toNat),(159,vb r.time.toNat),(160,fTag tl r)] (by simp) ?_ ?_ w hT hr ?_ ?_
   ·intro x hx
    simp only [List.mem_cons,List.not_mem_nil,or_false] at hx
    rcases hx with rfl | rfl | rfl | rfl | rfl | rfl <;> (simp only [];omega)
   ·intro x hx
    simp only [List.mem_cons,List.not_mem_nil,or_false] at hx
    rcases hx with rfl | rfl | rfl | rfl | rfl | rfl <;> simp
   ·intro W
    rw [hk]
    exact zQY 155 156 157 158 159 160 (.pointer (some ⟨w.heap.size+1+1,0,none⟩)) W
   ·intro x hx S T B
    simp only [List.mem_cons,List.not_mem_nil,or_false] at hx
    rcases hx with rfl | rfl | rfl | rfl | rfl | rfl
    ·exact L0 S T B
    ·exact L1 S T B
    ·exact L2 S T B
    ·exact L3 S T B
    ·exact L4 S T B
    ·exact L5 S T B
 ·have hp:payB ver tl r l=2 :: flat [(155,nmB ver tl r.target)]:=by
   unfold payB
   rw [if_pos hk]
   simp [flat]
  rw [hp]
  refine zDN T bt N n c ver tl r A l 2 hk (by decide) [(155,nmB ver tl r.target)] (by simp) ?_ ?_ w hT hr ?_ ?_
  ·intro x hx
   obtain rfl:=List.mem_singleton.1 hx
   simp only [];omega
  ·intro x hx
   obtain rfl:=List.mem_singleton.1 hx
   simp
  ·intro W
   rw [hk]
   exact of_2 155 156 157 158 159 160 (.pointer (some ⟨w.heap.size+1+1,0,none⟩)) ver W
  ·intro x hx S T B
   obtain rfl:=List.mem_singleton.1 hx
   exact L0 S T B
end Go.Proofs.YtekchkfjgofnkaaGreatDoor
