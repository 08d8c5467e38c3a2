/- Texts of one proof. -/
import Derived.ChangeAlike
import Derived.Lib.ConvBytes
import Derived.Test.YtekchkfjgofnkaaGreatDoorMy13
set_option maxRecDepth 100000
set_option maxHeartbeats 8000000
namespace Go.Proofs.YtekchkfjgofnkaaGreatDoor
open Go.RowKit
theorem zLb {w w':World} {p:Addr} (h:w'.heap[p.block]? = w.heap[p.block]?):w'.cell? p=w.cell? p:=by simp [World.cell?,h]
theorem zCO {w w':World} {S:Nat→Prop} {B size n:Nat} {A:Option Addr} {xs:List Value} (h:zAD w B size A n xs) (ha:∀ ad,A=some ad→0<n→¬ S ad.block) (ht:Turn S w w') (hB:B≤w.heap.size):zAD w' B size A n xs :=
 ⟨h.1,fun hn =>by
  obtain ⟨ad,e,h1,h2⟩:=h.2 hn
  refine ⟨ad,e,h1,fun j u hu =>(zLb ?_).trans (h2 j u hu)⟩
  rw [zAQ]
  exact ht.2.2.2.2 _ (Nat.lt_of_lt_of_le h1 hB) (ha ad e hn)⟩
theorem zBM.less {w:World} {base base':Nat} {S:Nat→Prop} {va:Value} {ps:List (List UInt8)} {vs:List Value} (h:zBM w base S va ps vs) (hb:base'≤base):zBM w base' S va ps vs:=by
 obtain ⟨h1,h2,h3,h4⟩:=h
 refine ⟨zAT h1 hb,h2,h3,fun i p hp =>?_⟩
 obtain ⟨v,h5,h6,h7⟩:=h4 i p hp
 exact ⟨v,h5,zAT h6 hb,h7⟩
def zKp (S:Nat→Prop) (bt N:Nat) (tl':List (List UInt8)) (ps:List (List UInt8)) (w:World) (e:Ending) (w':World):Prop :=
 ∃ (va:Value) (S':Nat→Prop),e=.returned (.tuple #[va,.int .i64 0])∧Tab w' S' bt (N+18) tl'∧(∀ k,S' k→k<w'.heap.size∧(S k∨w.heap.size≤k))∧Rows w' w.heap.size S' va ps∧Turn S w w'
theorem zMv (bt n c:Nat) (ver:Int) (hv:ver<2) (r:Rc) (A:Option Addr) (w:World) :
  Calls Tryz.prog 132 #[.int .i64 ver,.pointer (some ⟨bt,0,none⟩),.agg #[.int .i64 r.kind,.string (tx r.target),.int .u64 r.rule,.slice A n c,.int .u64 r.out,.int .u64 r.time,.string (tx r.tag)]] w fun e w' =>e=.returned (.slice none 0 0)∧Below w.heap.size w w':=by
 have HB:=yh ((Below.refl w.heap.size w).alloc (Nat.le_refl _) (.cells #[.int .i64 r.kind,.string (tx r.target),.int .u64 r.rule,.slice A n c,.int .u64 r.out,.int .u64 r.time,.string (tx r.tag)] 41))
 have d1:decide (ver<2)=true:=decide_eq_true hv
 clear hv
 go_enter Tryz.func132,Tryz.ntmps132
 go_wp2
 go_ret
 exact ⟨rfl,HB.out⟩
theorem zCr {ver:Int} {tl:List (List UInt8)} {r:Rc} {l:List Dp} (h:MayP ver r l):(payL ver tl r l).length≤19:=by
 unfold payL freT
 rw [List.length_append]
 split
 ·simp
 ·have h1:=zDt (zBK r l) tl
  have h2:=(zDA h).2
  simp;omega
theorem zMu (S:Nat→Prop) (bt N n c:Nat) (ver:Int) (tl:List (List UInt8)) (r:Rc) (A:Option Addr) (l:List Dp) (hm:MayP ver r l) (hfit:Fits r l) (htl:tl.length≤1000000000) (hN:N≤1000000000) (w:World) (hT:Tab w S bt N tl) (hr:zAD w w.heap.size 3 A n (dps l)) :
  Calls Tryz.prog 132 #[.int .i64 ver,.pointer (some ⟨bt,0,none⟩),.agg #[.int .i64 r.kind,.string (tx r.target),.int .u64 r.rule,.slice A n c,.int .u64 r.out,.int .u64 r.time,.string (tx r.tag)]] w fun e w' =>∃ (va:Value) (S':Nat→Prop),e=.returned va∧Tab w' S' bt (N+18) (tabT ver tl r l)∧(∀ k,S' k→k<w'.heap.size∧(S k∨w.heap.size≤k))∧Rows w' w.heap.size S' va (freT ver tl r l)∧Turn S w w':=by
 obtain ⟨h1,h2,h3,h4⟩:=zBZ hm
 have hn:n≤1000:=by have:=hr.1;rw [zAn] at this;omega
 unfold tabT freT
 by_cases hv:ver<2
 ·rw [if_pos hv,if_pos hv]
  refine (zMv bt n c ver hv r A w).mono ?_
  rintro e w' ⟨rfl,hb⟩
  have h5:=hT.keep (fun k _ hk =>hb.block k hk)
  exact ⟨_,fun k =>S k∧k<w.heap.size,rfl,((hT.wide (S2:=fun k =>S k∧k<w.heap.size) (fun k a b =>⟨a,b⟩)).keep (fun k _ hk =>hb.block k hk)).more (by omega),fun k hk =>⟨Nat.lt_of_lt_of_le hk.2 hb.size,.inl hk.1⟩,⟨[],zJq _ _ _⟩,Turn.of_below hb⟩
 ·rw [if_neg hv,if_neg hv]
  have hle:=zDA hm
  refine (zMw S bt N n c ver hv tl r A l hn hfit hle.1 htl hN (by omega) w hT hr).mono ?_
  rintro e w' ⟨va,S',rfl,h5,h6,h7,h8⟩
  exact ⟨va,S',rfl,h5.more (by omega),h6,h7,h8⟩
theorem zCs {ver:Int} {tl:List (List UInt8)} {r:Rc} {l:List Dp} (h:MayP ver r l):(tabT ver tl r l).length≤tl.length+18:=by
 unfold tabT
 split
 ·omega
 ·have h1:=zBc (zBK r l) tl
  have h2:=(zDA h).2
  omega
theorem zFm (S:Nat→Prop) (bt N n c:Nat) (ver:Int) (tl:List (List UInt8)) (r:Rc) (A:Option Addr) (l:List Dp) (hm:MayP ver r l) (hfit:Fits r l) (hnu:Nums r l) (htl:tl.length≤1000000000) (hN:N≤1000000000) (w:World) (hT:Tab w S bt N tl) (hap:∀ ad,A=some ad→0<n→¬ S ad.block) (hr:zAD w w.heap.size 3 A n (dps l)) :
  Calls Tryz.prog 109 #[.int .i64 ver,.pointer (some ⟨bt,0,none⟩),.agg #[.int .i64 r.kind,.string (tx r.target),.int .u64 r.rule,.slice A n c,.int .u64 r.out,.int .u64 r.time,.string (tx r.tag)]] w fun e w' =>zKp S bt N (tabT ver tl r l) (payL ver tl r l) w e w':=by
 obtain ⟨i0,ii0,iz0,iz1,iz2⟩:=info_parts (show (Tryz.prog.info? 59).map (fun i =>(i.zero,i.size,i.bytes))=some (some (.slice none 0 0),1,24) from by kernel_rfl)
 have hn:n≤1000:=by obtain ⟨_,_,h3,_⟩:=zBZ hm;have:=hr.1;rw [zAn] at this;omega
 have h0:=zAE w (.cells #[.int .i64 r.kind,.string (tx r.target),.int .u64 r.rule,.slice A n c,.int .u64 r.out,.int .u64 r.time,.string (tx r.tag)] 41)
 have hz:(w.alloc (.cells #[.int .i64 r.kind,.string (tx r.target),.int .u64 r.rule,.slice A n c,.int .u64 r.out,.int .u64 r.time,.string (tx r.tag)] 41)).heap.size=w.heap.size+1:=by simp
 have hb0:=(Below.refl w.heap.size w).alloc (Nat.le_refl _) (.cells #[.int .i64 r.kind,.string (tx r.target),.int .u64 r.rule,.slice A n c,.int .u64 r.out,.int .u64 r.time,.string (tx r.tag)] 41)
 have HMAY:Hid (∀ W,Below w.heap.size w W→Calls Tryz.prog 36 #[.int .i64 ver,.agg #[.int .i64 r.kind,.string (tx r.target),.int .u64 r.rule,.slice A n c,.int .u64 r.out,.int .u64 r.time,.string (tx r.tag)]] W fun e w' =>e=.returned (.bool true)∧Below W.heap.size W w'):=fun W hb =>(zHu ver r A n c l (by omega) hfit W ((hr.below hb).more hb.size)).mono fun e w' ⟨h1,h2⟩ =>⟨h1.yes hm,h2⟩
 have HFR:Hid (∀ W,Below w.heap.size w W→Calls Tryz.prog 132 #[.int .i64 ver,.pointer (some ⟨bt,0,none⟩),.agg #[.int .i64 r.kind,.string (tx r.target),.int .u64 r.rule,.slice A n c,.int .u64 r.out,.int .u64 r.time,.string (tx r.tag)]] W fun e w' =>∃ (va:Value) (S':Nat→Prop),e=.returned va∧Tab w' S' bt (N+18) (tabT ver tl r l)∧(∀ k,S' k→k<w'.heap.size∧((S k∧k<w.heap.size)∨W.heap.size≤k))∧Rows w' W.heap.size S' va (freT ver tl r l)∧Turn (fun k =>S k∧k<w.heap.size) W w'):=fun W hb =>zMu (fun k =>S k∧k<w.heap.size) bt N n c ver tl r A l hm hfit htl hN W ((hT.wide (fun k a b =>⟨a,b⟩)).keep (fun k hk _ =>hb.block k hk.2)) ((hr.below hb).more hb.size)
 have HWR:Hid (∀ (T:Nat→Prop) (W:World),Tab W T bt (N+18) (tabT ver tl r l)→zAD W W.heap.size 3 A n (dps l)→Calls Tryz.prog 133 #[.int .i64 ver,.pointer (some ⟨bt,0,none⟩),.agg #[.int .i64 r.kind,.string (tx r.target),.int .u64 r.rule,.slice A n c,.int .u64 r.out,.int .u64 r.time,.string (tx r.tag)]] W fun e w' =>∃ v,e=.returned v∧w'.ownsRow W.heap.size 5 1 v (payB ver (tabT ver tl r l) r l).length ((payB ver (tabT ver tl r l) r l).map bv)∧Below W.heap.size W w'):=fun T W h1 h2 =>zKn T bt (N+18) n c ver (tabT ver tl r l) r A l hm hnu (by have:=zCs (tl:=tl) hm;omega) W h1 h2
 have HLEN:Hid ((freT ver tl r l).length≤18):=by have h1:=zCr (tl:=tl) hm;unfold payL at h1;rw [List.length_append] at h1;show _≤_;simp at h1;omega
 have d1:decide (ver<1)=false:=decide_eq_false (by have:=hm.1;omega)
 have d2:decide (ver > 3)=false:=decide_eq_false (by have:=hm.2.1;omega)
 have HA0:=yh h0
 have HZ:=yh hz
 have HB0:=yh hb0
 have HR:=yh hr
 have HAP:=yh hap
 have HCELL:Hid (∀ {i:Nat} {x:Value},(#[.int .i64 r.kind,.string (tx r.target),.int .u64 r.rule,.slice A n c,.int .u64 r.out,.int .u64 r.time,.string (tx r.tag)]:Array Value)[i]? = some x→∀ {W:World},W.heap[w.heap.size]? = some (.cells #[.int .i64 r.kind,.string (tx r.target),.int .u64 r.rule,.slice A n c,.int .u64 r.out,.int .u64 r.time,.string (tx r.tag)] 41 (0,0))→W.cell? ⟨w.heap.size,i,none⟩=some x):=fun hi W hb =>zAA hb hi
 have q0:=zAA (i:=0) h0 rfl
 have q1:=zAA (i:=1) h0 rfl
 have q2:=zAA (i:=2) h0 rfl
 have q3:=zAA (i:=3) h0 rfl
 have q4:=zAA (i:=4) h0 rfl
 have q5:=zAA (i:=5) h0 rfl
 have q6:=zAA (i:=6) h0 rfl
 clear h0 hz hb0 hm hfit hnu hT hr hn htl hN hap
 go_enter Tryz.func109,Tryz.ntmps109
 go_wp2_with (go_at_call 36;refine (HMAY.out _ HB0.out).mono ?_;rintro e w5 ⟨rfl,hb5⟩;have HB5:=yh (HB0.out.trans (hb5.mono HB0.out.size));have HH5:=yh ((hb5.block w.heap.size (by rw [HZ.out];omega)).trans HA0.out);have HZ5:Hid (w.heap.size+1≤w5.heap.size):=(by have h1:=hb5.size;rw [HZ.out] at h1;exact h1);clear hb5)
 refine wp_region_held (S:=fun v1 =>v1.heap[w.heap.size]? = some (.cells #[.int .i64 r.kind,.string (tx r.target),.int .u64 r.rule,.slice A n c,.int .u64 r.out,.int .u64 r.time,.string (tx r.tag)] 41 (0,0))) (by kernel_rfl) ?_
 have hS:w5.drew.heap[w.heap.size]? = some (.cells #[.int .i64 r.kind,.string (tx r.target),.int .u64 r.rule,.slice A n c,.int .u64 r.out,.int .u64 r.time,.string (tx r.tag)] 41 (0,0)):=HH5.out
 refine zAB 0 (.int .i64 ver) rfl (by kernel_rfl) (by kernel_rfl) (by kernel_rfl) (fun _ _ _ h =>h) (by kernel_rfl) hS (fun _ _ =>by kernel_rfl) ?_
 refine zAB 1 (.pointer (some ⟨bt,0,none⟩)) rfl (by kernel_rfl) (by kernel_rfl) (by kernel_rfl) (fun _ _ _ h =>h) (by kernel_rfl) hS (fun _ _ =>by kernel_rfl) ?_
 refine zAB 2 (.agg #[.int .i64 r.kind,.string (tx r.target),.int .u64 r.rule,.slice A n c,.int .u64 r.out,.int .u64 r.time,.string (tx r.tag)]) rfl (by kernel_rfl) (by kernel_rfl) (by kernel_rfl) (fun _ _ _ h =>h) (by kernel_rfl) hS (by intro v1 hv;have q0:=HCELL.out (i:=0) rfl hv;have q1:=HCELL.out (i:=1) rfl hv;have q2:=HCELL.out (i:=2) rfl hv;have q3:=HCELL.out (i:=3) rfl hv;have q4:=HCELL.out (i:=4) rfl hv;have q5:=HCELL.out (i:=5) rfl hv;have q6:=HCELL.out (i:=6) rfl hv;go_simp;try rfl) ?_
 refine zAB 4 (.int .i64 ver) rfl (by kernel_rfl) (by kernel_rfl) (by kernel_rfl) (fun _ _ _ h =>h) (by kernel_rfl) hS (fun _ _ =>by kernel_rfl) ?_
 refine zAB 5 (.pointer (some ⟨bt,0,none⟩)) rfl (by kernel_rfl) (by kernel_rfl) (by kernel_rfl) (fun _ _ _ h =>h) (by kernel_rfl) hS (fun _ _ =>by kernel_rfl) ?_
 refine zAB 6 (.agg #[.int .i64 r.kind,.string (tx r.target),.int .u64 r.rule,.slice A n c,.int .u64 r.out,.int .u64 r.time,.string (tx r.tag)]) rfl (by kernel_rfl) (by kernel_rfl) (by kernel_rfl) (fun _ _ _ h =>h) (by kernel_rfl) hS (by intro v1 hv;have q0:=HCELL.out (i:=0) rfl hv;have q1:=HCELL.out (i:=1) rfl hv;have q2:=HCELL.out (i:=2) rfl hv;have q3:=HCELL.out (i:=3) rfl hv;have q4:=HCELL.out (i:=4) rfl hv;have q5:=HCELL.out (i:=5) rfl hv;have q6:=HCELL.out (i:=6) rfl hv;go_simp;try rfl) ?_
 refine zAO 3 rfl (by kernel_rfl) (by kernel_rfl) (fun K hK =>?_)
 go_simp
 refine (HFR.out _ HB5.out.drew).mono ?_
 rintro e w6 ⟨va,S',rfl,ht6,hs6,⟨vs,hv6⟩,htu6⟩
 have hS6:w6.heap[w.heap.size]? = some (.cells #[.int .i64 r.kind,.string (tx r.target),.int .u64 r.rule,.slice A n c,.int .u64 r.out,.int .u64 r.time,.string (tx r.tag)] 41 (0,0)):=(htu6.2.2.2.2 w.heap.size (by have:=HZ5.out;show _<w5.heap.size;omega) (fun h =>by omega)).trans HH5.out
 have htw6:Turn S w w6:=(Turn.of_below HB5.out).trans (b:=w5) (c:=w6) htu6 (fun k h1 h2 =>h2.1)
 have hsz6:w.heap.size+1≤w6.heap.size:=Nat.le_trans HZ5.out htu6.2.2.2.1
 have hr6:zAD w6 w6.heap.size 3 A n (dps l):=(zCO (HR.out.below HB5.out) (fun ad h1 h2 h3 =>HAP.out ad h1 h2 h3.1) (Turn.trans (S:=fun k =>S k∧k<w.heap.size) (a:=w5) (b:=w5) (Turn.refl _ _) htu6 (fun _ _ h =>h)) HB5.out.size).more (by have:=htu6.2.2.2.1;have:=HB5.out.size;omega)
 refine hK _ _ hS6 ?_
 clear hK K
 refine zAO 7 rfl (by kernel_rfl) (by kernel_rfl) (fun K hK =>?_)
 go_simp
 refine (HWR.out S' w6 ht6 hr6).mono ?_
 rintro e w9 ⟨v9,rfl,ho9,hb9⟩
 obtain ⟨A9,c9,rfl,hc9⟩:=zAL ho9
 have hS9:w9.heap[w.heap.size]? = some (.cells #[.int .i64 r.kind,.string (tx r.target),.int .u64 r.rule,.slice A n c,.int .u64 r.out,.int .u64 r.time,.string (tx r.tag)] 41 (0,0)):=(hb9.block w.heap.size (by omega)).trans hS6
 have hv9:=hv6.below hb9
 refine hK _ _ hS9 ?_
 clear hK K
 refine zAO 8 rfl (by kernel_rfl) (by kernel_rfl) (fun K hK =>?_)
 go_simp
 have hz10:(w9.alloc (.cells #[.slice A9 (payB ver (tabT ver tl r l) r l).length c9] 59)).heap.size=w9.heap.size+1:=by simp
 have hS10:(w9.alloc (.cells #[.slice A9 (payB ver (tabT ver tl r l) r l).length c9] 59)).heap[w.heap.size]? = some (.cells #[.int .i64 r.kind,.string (tx r.target),.int .u64 r.rule,.slice A n c,.int .u64 r.out,.int .u64 r.time,.string (tx r.tag)] 41 (0,0)):=(Below.heap_alloc w9 _ _ (by have:=hb9.size;omega)).trans hS9
 have hv10:=hv9.below ((Below.refl _ w9).alloc (Nat.le_refl _) (.cells #[.slice A9 (payB ver (tabT ver tl r l) r l).length c9] 59))
 have ho10:=World.ownsRow.alloc ho9 (.cells #[.slice A9 (payB ver (tabT ver tl r l) r l).length c9] 59)
 have hr10:=zFY w9 59 (.slice A9 (payB ver (tabT ver tl r l) r l).length c9)
 refine hK _ _ hS10 ?_
 clear hK K
 refine zAO 9 rfl (by kernel_rfl) (by kernel_rfl) (fun K hK =>?_)
 refine zAk (.tmp 25) (.tmp 30) 123 rfl w5.heap.size 59 i0 _ 1 24 Tryz.underlying123 ii0 iz0 iz1 iz2 rfl (by decide) va (freT ver tl r l).length vs rfl hv10.1 (some ⟨w9.heap.size,0,none⟩) 1 1 (w9.heap.size+1) [.slice A9 (payB ver (tabT ver tl r l) r l).length c9] rfl (by simp) hr10 (fun u hu =>by obtain rfl:=List.mem_singleton.1 hu;rfl) (by have:=HLEN.out;unfold maxLen;omega) (by have:=HLEN.out;omega) (by have h1:=htu6.2.2.2.1;have h2:=hb9.size;have h3:w5.drew.heap.size=w5.heap.size:=rfl;omega) ?_
 intro v11 w11 ho11 hg11 hv11
 have hS11:w11.heap[w.heap.size]? = some (.cells #[.int .i64 r.kind,.string (tx r.target),.int .u64 r.rule,.slice A n c,.int .u64 r.out,.int .u64 r.time,.string (tx r.tag)] 41 (0,0)):=(hg11.block w.heap.size (by have:=hb9.size;omega) (fun h =>by have h1:=zAG hv10.1 _ h.symm;have h2:=HZ5.out;have h3:w5.drew.heap.size=w5.heap.size:=rfl;omega)).trans hS10
 have hfin:=(hv10.push (p:=payB ver (tabT ver tl r l) r l) (zAT ho10 (show w5.drew.heap.size≤w6.heap.size from htu6.2.2.2.1)) (zHz ho10 (fun k hk =>(hs6 k hk).1)) ho11 hg11 hv11 (fun h =>by have h1:=(hs6 _ h).1;have:=hb9.size;omega)).less (show w.heap.size≤w5.drew.heap.size from HB5.out.size)
 have hb10:Below w6.heap.size w6 (w9.alloc (.cells #[.slice A9 (payB ver (tabT ver tl r l) r l).length c9] 59)):=hb9.alloc hb9.size _
 have htu11:Turn (fun k =>va.ownBlock=some k) w6 w11:=(Turn.of_below hb10).grown hg11 (fun k hk _ =>hk)
 have ht11:=ht6.turn htu11 (fun k h1 _ h2 =>hv6.2.1 k h2 h1)
 have htw11:Turn S w w11:=htw6.trans htu11 (fun k h1 h2 =>by have h3:=zAG hv6.1 k h2;have h4:=HB5.out.size;have h5:w5.drew.heap.size=w5.heap.size:=rfl;omega)
 have hs11:∀ k,S' k→k<w11.heap.size∧(S k∨w.heap.size≤k):=fun k hk =>⟨Nat.lt_of_lt_of_le (hs6 k hk).1 htu11.2.2.2.1,by rcases (hs6 k hk).2 with h | h;exact .inl h.1;exact .inr (Nat.le_trans HB5.out.size h)⟩
 have FIN:=yh (show zKp S bt N (tabT ver tl r l) (payL ver tl r l) w (.returned (.tuple #[v11,.int .i64 0])) w11 from ⟨v11,S',rfl,ht11,hs11,⟨_,hfin⟩,htw11⟩)
 refine hK _ _ hS11 ?_
 clear hK K
 refine zAB 10 (v11) rfl (by kernel_rfl) (by kernel_rfl) (by kernel_rfl) (fun _ _ _ h =>h) (by kernel_rfl) hS11 (fun _ _ =>by kernel_rfl) ?_
 refine zAB 11 (.int .i64 0) rfl (by kernel_rfl) (by kernel_rfl) (by kernel_rfl) (fun _ _ _ h =>h) (by kernel_rfl) hS11 (fun _ _ =>by kernel_rfl) ?_
 refine wpAnyH_done (by kernel_rfl) ?_ _
 go_simp
 go_wp2
 go_ret2
 exact FIN.out
def PlsV (w:World) (B:Nat) (A:Option Addr) (n:Nat) (ps:List (List UInt8)) (vs:List Value):Prop :=
 zAD w B 1 A n vs∧ps.length=n∧∀ (i:Nat) (p:List UInt8),ps[i]? = some p→∃ (A':Option Addr) (c':Nat),vs[i]? = some (.slice A' p.length c')∧zAD w B 1 A' p.length (p.map bv)
def Pls (w:World) (B:Nat) (A:Option Addr) (n:Nat) (ps:List (List UInt8)):Prop:=∃ vs,PlsV w B A n ps vs
theorem Pls.below {w w':World} {B:Nat} {A:Option Addr} {n:Nat} {ps:List (List UInt8)} (h:Pls w B A n ps) (hb:Below B w w'):Pls w' B A n ps:=by
 obtain ⟨vs,h1,h2,h3⟩:=h
 refine ⟨vs,h1.below hb,h2,fun i p hp =>?_⟩
 obtain ⟨A',c',h4,h5⟩:=h3 i p hp
 exact ⟨A',c',h4,h5.below hb⟩
theorem Pls.more {w:World} {B B':Nat} {A:Option Addr} {n:Nat} {ps:List (List UInt8)} (h:Pls w B A n ps) (hB:B≤B'):Pls w B' A n ps:=by
 obtain ⟨vs,h1,h2,h3⟩:=h
 refine ⟨vs,h1.more hB,h2,fun i p hp =>?_⟩
 obtain ⟨A',c',h4,h5⟩:=h3 i p hp
 exact ⟨A',c',h4,h5.more hB⟩
theorem Pls.of_rows {w:World} {base:Nat} {S:Nat→Prop} {va:Value} {ps:List (List UInt8)} (h:Rows w base S va ps):∃ A c,va=.slice A ps.length c∧(A=none→c=0)∧Pls w w.heap.size A ps.length ps:=by
 obtain ⟨vs,h1,h2,h3,h4⟩:=h
 obtain ⟨A,c,rfl,hc⟩:=zAL h1
 refine ⟨A,c,rfl,hc,vs,zAD.of_own h1,rfl,fun i p hp =>?_⟩
 obtain ⟨v,h5,h6,h7⟩:=h4 i p hp
 obtain ⟨A',c',rfl,_⟩:=zAL h6
 exact ⟨A',c',h5,zAD.of_own h6⟩
theorem zRP (ver:Int) (hv:ver<1) (t:Option Addr) (n c:Nat) (r:Rc) (A:Option Addr) (w:World) :
  Calls Tryz.prog 109 #[.int .i64 ver,.pointer t,.agg #[.int .i64 r.kind,.string (tx r.target),.int .u64 r.rule,.slice A n c,.int .u64 r.out,.int .u64 r.time,.string (tx r.tag)]] w fun e w' =>e=.returned (.tuple #[.slice none 0 0,.int .i64 11])∧Below w.heap.size w w':=by
 have h0:=zAE w (.cells #[.int .i64 r.kind,.string (tx r.target),.int .u64 r.rule,.slice A n c,.int .u64 r.out,.int .u64 r.time,.string (tx r.tag)] 41)
 have HB0:=yh ((Below.refl w.heap.size w).alloc (Nat.le_refl _) (.cells #[.int .i64 r.kind,.string (tx r.target),.int .u64 r.rule,.slice A n c,.int .u64 r.out,.int .u64 r.time,.string (tx r.tag)] 41))
 have q0:=zAA (i:=0) h0 rfl
 have q1:=zAA (i:=1) h0 rfl
 have q2:=zAA (i:=2) h0 rfl
 have q3:=zAA (i:=3) h0 rfl
 have q4:=zAA (i:=4) h0 rfl
 have q5:=zAA (i:=5) h0 rfl
 have q6:=zAA (i:=6) h0 rfl
 clear h0
 have d1:decide (ver<1)=true:=decide_eq_true hv
 clear hv
 go_enter Tryz.func109,Tryz.ntmps109
 go_wp2
 go_ret2
 exact ⟨rfl,HB0.out⟩
theorem zPg (ver:Int) (hv:1≤ver∧3<ver) (t:Option Addr) (n c:Nat) (r:Rc) (A:Option Addr) (w:World) :
  Calls Tryz.prog 109 #[.int .i64 ver,.pointer t,.agg #[.int .i64 r.kind,.string (tx r.target),.int .u64 r.rule,.slice A n c,.int .u64 r.out,.int .u64 r.time,.string (tx r.tag)]] w fun e w' =>e=.returned (.tuple #[.slice none 0 0,.int .i64 11])∧Below w.heap.size w w':=by
 have h0:=zAE w (.cells #[.int .i64 r.kind,.string (tx r.target),.int .u64 r.rule,.slice A n c,.int .u64 r.out,.int .u64 r.time,.string (tx r.tag)] 41)
 have HB0:=yh ((Below.refl w.heap.size w).alloc (Nat.le_refl _) (.cells #[.int .i64 r.kind,.string (tx r.target),.int .u64 r.rule,.slice A n c,.int .u64 r.out,.int .u64 r.time,.string (tx r.tag)] 41))
 have q0:=zAA (i:=0) h0 rfl
 have q1:=zAA (i:=1) h0 rfl
 have q2:=zAA (i:=2) h0 rfl
 have q3:=zAA (i:=3) h0 rfl
 have q4:=zAA (i:=4) h0 rfl
 have q5:=zAA (i:=5) h0 rfl
 have q6:=zAA (i:=6) h0 rfl
 clear h0
 have d1:decide (ver<1)=false:=decide_eq_false (by omega)
 have d2:decide (ver > 3)=true:=decide_eq_true (by omega)
 clear hv
 go_enter Tryz.func109,Tryz.ntmps109
 go_wp2
 go_ret2
 exact ⟨rfl,HB0.out⟩
theorem zRO (ver:Int) (hv:1≤ver∧ver≤3) (bt:Nat) (n c:Nat) (r:Rc) (A:Option Addr) (w:World) (HM:Hid (∀ W,Below w.heap.size w W→Calls Tryz.prog 36 #[.int .i64 ver,.agg #[.int .i64 r.kind,.string (tx r.target),.int .u64 r.rule,.slice A n c,.int .u64 r.out,.int .u64 r.time,.string (tx r.tag)]] W fun e w' =>e=.returned (.bool false)∧Below W.heap.size W w')) :
  Calls Tryz.prog 109 #[.int .i64 ver,.pointer (some ⟨bt,0,none⟩),.agg #[.int .i64 r.kind,.string (tx r.target),.int .u64 r.rule,.slice A n c,.int .u64 r.out,.int .u64 r.time,.string (tx r.tag)]] w fun e w' =>e=.returned (.tuple #[.slice none 0 0,.int .i64 1])∧Below w.heap.size w w':=by
 have h0:=zAE w (.cells #[.int .i64 r.kind,.string (tx r.target),.int .u64 r.rule,.slice A n c,.int .u64 r.out,.int .u64 r.time,.string (tx r.tag)] 41)
 have HB0:=yh ((Below.refl w.heap.size w).alloc (Nat.le_refl _) (.cells #[.int .i64 r.kind,.string (tx r.target),.int .u64 r.rule,.slice A n c,.int .u64 r.out,.int .u64 r.time,.string (tx r.tag)] 41))
 have q0:=zAA (i:=0) h0 rfl
 have q1:=zAA (i:=1) h0 rfl
 have q2:=zAA (i:=2) h0 rfl
 have q3:=zAA (i:=3) h0 rfl
 have q4:=zAA (i:=4) h0 rfl
 have q5:=zAA (i:=5) h0 rfl
 have q6:=zAA (i:=6) h0 rfl
 clear h0
 have d1:decide (ver<1)=false:=decide_eq_false (by omega)
 have d2:decide (ver > 3)=false:=decide_eq_false (by omega)
 clear hv
 go_enter Tryz.func109,Tryz.ntmps109
 go_wp2_with (go_at_call 36;refine (HM.out _ HB0.out).mono ?_;rintro e w5 ⟨rfl,hb5⟩;have HB5:=yh (HB0.out.trans (hb5.mono HB0.out.size));clear hb5)
 go_ret2
 exact ⟨rfl,HB5.out⟩
theorem zRQ (ver:Int) (hv:¬ (1≤ver∧ver≤3)) (t:Option Addr) (n c:Nat) (r:Rc) (A:Option Addr) (w:World) :
  Calls Tryz.prog 109 #[.int .i64 ver,.pointer t,.agg #[.int .i64 r.kind,.string (tx r.target),.int .u64 r.rule,.slice A n c,.int .u64 r.out,.int .u64 r.time,.string (tx r.tag)]] w fun e w' =>e=.returned (.tuple #[.slice none 0 0,.int .i64 11])∧Below w.heap.size w w':=by
 by_cases h:ver<1
 ·exact zRP ver h t n c r A w
 ·exact zPg ver (by omega) t n c r A w
theorem zAp {P:Program} {fn:Func} {u u2 p:Tmp} {ty:TypeId} (h:fn.results=#[.cell p ty,.tmp u,.tmp u2]) (tmps:Array Value) (w:World) (g:Nat) (t:TypeId) (cs:Array Value) (fr:Nat×Nat) (d:TypeDesc)
  (hp:tmps.getD p undef=.pointer (some ⟨g,0,none⟩)) (hg:w.heap[g]? = some (.cells cs t fr))
  (hu:P.underlying ty=some d) (hd:(match d with | .struct _ | .array _ _ =>true | _ =>false)=true) (hi:(P.info? ty).map (·.size)=some cs.size) :
  (results fn tmps).run P w=.ok (.tuple #[.agg cs,tmps.getD u undef,tmps.getD u2 undef]) w:=by
 have hp':tmps[p]?.getD undef=.pointer (some ⟨g,0,none⟩):=by simpa using hp
 simp [results,h,hp',asAddr,run_loadVar_row w g t ty cs fr d hg hu hd hi]
theorem zQx (ver:Int) (hv:ver<1) (t:Option Addr) (A:Option Addr) (n c:Nat) (at_:Int) (w:World) :
  Calls Tryz.prog 103 #[.int .i64 ver,.pointer t,.slice A n c,.int .i64 at_] w fun e w' =>e=.returned (.tuple #[.agg #[.int .i64 0,.string ⟨#[]⟩,.int .u64 0,.slice none 0 0,.int .u64 0,.int .u64 0,.string ⟨#[]⟩],.int .i64 0,.int .i64 11])∧Below w.heap.size w w':=by
 have h0:=zAE w (.cells #[.int .i64 0,.string ⟨#[]⟩,.int .u64 0,.slice none 0 0,.int .u64 0,.int .u64 0,.string ⟨#[]⟩] 41)
 have HA0:=yh h0
 have HB0:=yh ((Below.refl w.heap.size w).alloc (Nat.le_refl _) (.cells #[.int .i64 0,.string ⟨#[]⟩,.int .u64 0,.slice none 0 0,.int .u64 0,.int .u64 0,.string ⟨#[]⟩] 41))
 have q0:=zAA (i:=0) h0 rfl
 have y0:=zAC (i:=0) h0
 have q1:=zAA (i:=1) h0 rfl
 have y1:=zAC (i:=1) h0
 have q2:=zAA (i:=2) h0 rfl
 have y2:=zAC (i:=2) h0
 have q3:=zAA (i:=3) h0 rfl
 have y3:=zAC (i:=3) h0
 have q4:=zAA (i:=4) h0 rfl
 have y4:=zAC (i:=4) h0
 have q5:=zAA (i:=5) h0 rfl
 have y5:=zAC (i:=5) h0
 have q6:=zAA (i:=6) h0 rfl
 have y6:=zAC (i:=6) h0
 clear h0
 have d1:decide (ver<1)=true:=decide_eq_true hv
 clear hv
 go_enter Tryz.func103,Tryz.ntmps103
 go_wp2
 refine bodyPost_ret (zAp rfl _ _ _ _ _ _ _ rfl HA0.out Tryz.underlying41 rfl (by kernel_rfl)) rfl ?_
 exact ⟨rfl,HB0.out⟩
theorem zOv (ver:Int) (hv:1≤ver∧3<ver) (t:Option Addr) (A:Option Addr) (n c:Nat) (at_:Int) (w:World) :
  Calls Tryz.prog 103 #[.int .i64 ver,.pointer t,.slice A n c,.int .i64 at_] w fun e w' =>e=.returned (.tuple #[.agg #[.int .i64 0,.string ⟨#[]⟩,.int .u64 0,.slice none 0 0,.int .u64 0,.int .u64 0,.string ⟨#[]⟩],.int .i64 0,.int .i64 11])∧Below w.heap.size w w':=by
 have h0:=zAE w (.cells #[.int .i64 0,.string ⟨#[]⟩,.int .u64 0,.slice none 0 0,.int .u64 0,.int .u64 0,.string ⟨#[]⟩] 41)
 have HA0:=yh h0
 have HB0:=yh ((Below.refl w.heap.size w).alloc (Nat.le_refl _) (.cells #[.int .i64 0,.string ⟨#[]⟩,.int .u64 0,.slice none 0 0,.int .u64 0,.int .u64 0,.string ⟨#[]⟩] 41))
 have q0:=zAA (i:=0) h0 rfl
 have y0:=zAC (i:=0) h0
 have q1:=zAA (i:=1) h0 rfl
 have y1:=zAC (i:=1) h0
 have q2:=zAA (i:=2) h0 rfl
 have y2:=zAC (i:=2) h0
 have q3:=zAA (i:=3) h0 rfl
 have y3:=zAC (i:=3) h0
 have q4:=zAA (i:=4) h0 rfl
 have y4:=zAC (i:=4) h0
 have q5:=zAA (i:=5) h0 rfl
 have y5:=zAC (i:=5) h0
 have q6:=zAA (i:=6) h0 rfl
 have y6:=zAC (i:=6) h0
 clear h0
 have d1:decide (ver<1)=false:=decide_eq_false (by omega)
 have d2:decide (ver > 3)=true:=decide_eq_true (by omega)
 clear hv
 go_enter Tryz.func103,Tryz.ntmps103
 go_wp2
 refine bodyPost_ret (zAp rfl _ _ _ _ _ _ _ rfl HA0.out Tryz.underlying41 rfl (by kernel_rfl)) rfl ?_
 exact ⟨rfl,HB0.out⟩
theorem zQy (ver:Int) (hv:¬ (1≤ver∧ver≤3)) (t:Option Addr) (A:Option Addr) (n c:Nat) (at_:Int) (w:World) :
  Calls Tryz.prog 103 #[.int .i64 ver,.pointer t,.slice A n c,.int .i64 at_] w fun e w' =>e=.returned (.tuple #[.agg #[.int .i64 0,.string ⟨#[]⟩,.int .u64 0,.slice none 0 0,.int .u64 0,.int .u64 0,.string ⟨#[]⟩],.int .i64 0,.int .i64 11])∧Below w.heap.size w w':=by
 by_cases h:ver<1
 ·exact zQx ver h t A n c at_ w
 ·exact zOv ver (by omega) t A n c at_ w
end Go.Proofs.YtekchkfjgofnkaaGreatDoor
