/- Texts of one proof. -/
import Derived.Test.YtekchkfjgofnkaaGreatDoorMy5
set_option maxRecDepth 100000
set_option maxHeartbeats 8000000
namespace Go.Proofs.YtekchkfjgofnkaaGreatDoor
open Go.RowKit
section
variable {P:Program} {md:Region.Mode} {ops:Array Oper} {Q:Exit→Act→World→Prop} {S:World→Prop}
theorem zCq (i j:Nat) {oi oj:Oper} {fuel:Nat} {listed:Array Bool} {a:Act} {w:World} (hi:ops[i]? = some oi) (hj:ops[j]? = some oj)
  (hr:Region.ready md ops listed=[i,j]) (hwi:Region.wanted oi (yielded ops a.tmps)=true) (hwj:Region.wanted oj (yielded ops a.tmps)=true)
  (h1:∀ K:Act→World→Prop,(∀ a' w',S w'→wpAnyH P md ops Q S fuel (listed.setIfInBounds i true) a' w'→K a' w')→oi.wp P a w K Q)
  (h2:∀ K:Act→World→Prop,(∀ a' w',S w'→wpAnyH P md ops Q S fuel (listed.setIfInBounds j true) a' w'→K a' w')→oj.wp P a w K Q):wpAnyH P md ops Q S (fuel+1) listed a w:=by
 refine wpAnyH_all hr (by simp) (fun k hk =>?_)
 rcases (by simpa using hk:k=i∨k=j) with rfl | rfl
 ·unfold wpOp
  simp only [hi,hwi,if_true]
  exact .inl (h1 _ fun _ _ h1 h2 =>⟨h1,h2⟩)
 ·unfold wpOp
  simp only [hj,hwj,if_true]
  exact .inl (h2 _ fun _ _ h1 h2 =>⟨h1,h2⟩)
end
def Wr (w:World) (S:Nat→Prop) (bw:Nat) (ver:Int) (bt:Nat) (out:List UInt8):Prop :=
 S bw∧∃ va,w.heap[bw]? = some (.cells #[.int .i64 ver,.pointer (some ⟨bt,0,none⟩),va] 218 (0,0))∧w.ownsRow 0 5 1 va out.length (out.map bv)∧(∀ k,va.ownBlock=some k→S k)
theorem zLR {w w2 w3:World} {S:Nat→Prop} {bw bt:Nat} {ver:Int} {out xs:List UInt8} {va v':Value} (hSb:S bw) (hh:w.heap[bw]? = some (.cells #[.int .i64 ver,.pointer (some ⟨bt,0,none⟩),va] 218 (0,0))) (hown:w.ownsRow 0 5 1 va out.length (out.map bv)) (hs:∀ k,va.ownBlock=some k→S k) (hS:∀ k,w.heap.size≤k→S k)
  (hb:Below w.heap.size w w2) (ho:w3.ownsRow 0 5 1 v' (out.length+xs.length) (out.map bv++xs.map bv)) (hg:w2.grownBy w3 va.ownBlock) (hv:v'.ownBlock=va.ownBlock∨v'.ownBlock=some w2.heap.size) :
  Wr (w3.setCell ⟨bw,2,none⟩ v') S bw ver bt (out++xs)∧Turn S w (w3.setCell ⟨bw,2,none⟩ v')∧w3.heap[bw]? = some (.cells #[.int .i64 ver,.pointer (some ⟨bt,0,none⟩),va] 218 (0,0)):=by
 have hlt:bw<w.heap.size:=by
  rcases Nat.lt_or_ge bw w.heap.size with h | h
  ·exact h
  ·rw [Array.getElem?_eq_none h] at hh;cases hh
 rw [← List.length_append,← List.map_append] at ho
 have hne:va.ownBlock≠some bw:=zAa hown hh (by decide)
 have h2:=(hb.block bw hlt).trans hh
 have h3:=(hg.block bw (Nat.lt_of_lt_of_le hlt hb.size) (fun h =>hne h.symm)).trans h2
 have hne':v'.ownBlock≠some bw:=zAa ho h3 (by decide)
 refine ⟨⟨hSb,v',?_,ownsRow_setCell_other ho hne' _,fun k hk =>?_⟩,(((Turn.of_below hb).grown hg (fun i hi _ =>hs i hi)).setCell _ _ _ hSb),h3⟩
 ·exact zAF h3 2 v'
 ·rcases hv with h | h
  ·exact hs k (h▸hk)
  ·rw [h] at hk
   obtain rfl:w2.heap.size=k:=by simpa using hk
   exact hS _ hb.size
theorem zGK {w w2:World} {n:Nat} {v:Value} {xs:List UInt8} (h:w.ownsRow 0 5 1 v n (xs.map bv)) (hb:Below w.heap.size w w2):w2.ownsRow 0 5 1 v n (xs.map bv):=zAK h hb
theorem zBx (S:Nat→Prop) (bw bt k:Nat) (ver:Int) (out:List UInt8) (hk:k<top) (hbig:out.length≤1000000000) (w:World) (hS:∀ k,w.heap.size≤k→S k) (h:Wr w S bw ver bt out) :
  Calls Tryz.prog 175 #[.pointer (some ⟨bw,0,none⟩),.int .u64 (k:Int)] w fun e w' =>e=.returned (.tuple #[])∧Wr w' S bw ver bt (out++(vb k))∧Turn S w w':=by
 obtain ⟨i0,ii0,iz0,iz1,iz2⟩:=info_parts zHP
 obtain ⟨hSb,va,hh,hown,hs⟩:=h
 have q0:=zAA (i:=0) hh rfl
 have q2:=zAA (i:=2) hh rfl
 have HP:=yh (fun W =>zLF k hk W)
 have HVB:Hid ((vb k).length≤10):=zBQ k hk
 have HH:=yh hh
 have HO:=yh hown
 have HBIG:=yh hbig
 have FIN:Hid (∀ {w2 w3:World} {v':Value} {xs:List UInt8},Below w.heap.size w w2→w3.ownsRow 0 5 1 v' (out.length+xs.length) (out.map bv++xs.map bv)→w2.grownBy w3 va.ownBlock→(v'.ownBlock=va.ownBlock∨v'.ownBlock=some w2.heap.size)→Wr (w3.setCell ⟨bw,2,none⟩ v') S bw ver bt (out++xs)∧Turn S w (w3.setCell ⟨bw,2,none⟩ v')∧w3.heap[bw]? = some (.cells #[.int .i64 ver,.pointer (some ⟨bt,0,none⟩),va] 218 (0,0))):=zLR hSb hh hown hs hS
 have HLT:Hid (bw<w.heap.size):=by
  show _<_
  rcases Nat.lt_or_ge bw w.heap.size with h | h
  ·exact h
  ·rw [Array.getElem?_eq_none h] at hh;cases hh
 clear hh hown hbig hs hS hSb
 go_enter Tryz.func175,Tryz.ntmps175
 refine wp_region_held (S:=fun _ =>True) (by kernel_rfl) ?_
 refine zAB 0 (.pointer (some ⟨bw,0,none⟩)) rfl (by kernel_rfl) (by kernel_rfl) (by kernel_rfl) (fun _ _ _ h =>h) (by kernel_rfl) trivial (fun _ _ =>by kernel_rfl) ?_
 refine zAB 1 (.pointer (some ⟨bw,0,none⟩)) rfl (by kernel_rfl) (by kernel_rfl) (by kernel_rfl) (fun _ _ _ h =>h) (by kernel_rfl) trivial (fun _ _ =>by kernel_rfl) ?_
 refine zAB 2 (.pointer (some ⟨bw,0,none⟩)) rfl (by kernel_rfl) (by kernel_rfl) (by kernel_rfl) (fun _ _ _ h =>h) (by kernel_rfl) trivial (fun _ _ =>by kernel_rfl) ?_
 refine zAB 3 (.pointer (some ⟨bw,2,none⟩)) rfl (by kernel_rfl) (by kernel_rfl) (by kernel_rfl) (fun _ _ _ h =>h) (by kernel_rfl) trivial (fun _ _ =>by kernel_rfl) ?_
 refine zAB 5 (.int .u64 (k:Int)) rfl (by kernel_rfl) (by kernel_rfl) (by kernel_rfl) (fun _ _ _ h =>h) (by kernel_rfl) trivial (fun _ _ =>by kernel_rfl) ?_
 refine zCq 4 6 rfl rfl (by kernel_rfl) (by kernel_rfl) (by kernel_rfl) (fun K hK =>?_) (fun K hK =>?_)
 ·go_simp
  refine hK _ _ trivial ?_
  clear hK K
  refine zAO 6 rfl (by kernel_rfl) (by kernel_rfl) (fun K hK =>?_)
  go_simp
  refine (HP.out _).mono ?_
  rintro e w2 ⟨v2,rfl,ho2,hb2⟩
  have HB2:Below w.heap.size w w2:=((Below.refl _ w).drew).trans hb2
  refine hK _ _ trivial ?_
  clear hK K
  refine zAO 7 rfl (by kernel_rfl) (by kernel_rfl) (fun K hK =>?_)
  obtain ⟨A2,c2,rfl,hc2⟩:=zAL ho2
  refine zAk (.tmp 8) (.tmp 10) 59 rfl 0 5 i0 _ 1 1 Tryz.underlying59 ii0 iz0 iz1 iz2 rfl (by decide) va out.length (out.map bv) rfl (zGK HO.out HB2) A2 (vb k).length c2 w2.heap.size ((vb k).map bv) rfl hc2 (zAD.of_own ho2) (zCW _) (by have h1:=HBIG.out;have h2:=HVB.out;unfold maxLen;omega) (by have h1:=HBIG.out;have h2:=HVB.out;omega) (by omega) ?_
  intro v3 w3 ho3 hg3 hv3
  obtain ⟨hf1,hf2,hf3⟩:=FIN.out HB2 ho3 hg3 hv3
  obtain ⟨A3,c3,rfl,_⟩:=zAL ho3
  refine hK _ _ trivial ?_
  clear hK K
  refine zAB 8 (.pointer (some ⟨bw,0,none⟩)) rfl (by kernel_rfl) (by kernel_rfl) (by kernel_rfl) (fun _ _ _ h =>h) (by kernel_rfl) trivial (fun _ _ =>by kernel_rfl) ?_
  refine zAB 9 (.pointer (some ⟨bw,2,none⟩)) rfl (by kernel_rfl) (by kernel_rfl) (by kernel_rfl) (fun _ _ _ h =>h) (by kernel_rfl) trivial (fun _ _ =>by kernel_rfl) ?_
  refine zAO 10 rfl (by kernel_rfl) (by kernel_rfl) (fun K hK =>?_)
  have p2:=zAA (i:=2) hf3 rfl
  have z2:=zAC (i:=2) hf3
  go_simp
  refine hK _ _ trivial ?_
  refine wpAnyH_done (by kernel_rfl) ?_ _
  go_simp
  go_end0
  exact ⟨rfl,hf1,hf2⟩
 ·go_simp
  refine (HP.out _).mono ?_
  rintro e w2 ⟨v2,rfl,ho2,hb2⟩
  have HB2:Below w.heap.size w w2:=((Below.refl _ w).drew).trans hb2
  refine hK _ _ trivial ?_
  clear hK K
  refine zAO 4 rfl (by kernel_rfl) (by kernel_rfl) (fun K hK =>?_)
  have r2:=zAA (i:=2) ((HB2.block bw HLT.out).trans HH.out) rfl
  go_simp
  refine hK _ _ trivial ?_
  clear hK K
  refine zAO 7 rfl (by kernel_rfl) (by kernel_rfl) (fun K hK =>?_)
  obtain ⟨A2,c2,rfl,hc2⟩:=zAL ho2
  refine zAk (.tmp 8) (.tmp 10) 59 rfl 0 5 i0 _ 1 1 Tryz.underlying59 ii0 iz0 iz1 iz2 rfl (by decide) va out.length (out.map bv) rfl (zGK HO.out HB2) A2 (vb k).length c2 w2.heap.size ((vb k).map bv) rfl hc2 (zAD.of_own ho2) (zCW _) (by have h1:=HBIG.out;have h2:=HVB.out;unfold maxLen;omega) (by have h1:=HBIG.out;have h2:=HVB.out;omega) (by omega) ?_
  intro v3 w3 ho3 hg3 hv3
  obtain ⟨hf1,hf2,hf3⟩:=FIN.out HB2 ho3 hg3 hv3
  obtain ⟨A3,c3,rfl,_⟩:=zAL ho3
  refine hK _ _ trivial ?_
  clear hK K
  refine zAB 8 (.pointer (some ⟨bw,0,none⟩)) rfl (by kernel_rfl) (by kernel_rfl) (by kernel_rfl) (fun _ _ _ h =>h) (by kernel_rfl) trivial (fun _ _ =>by kernel_rfl) ?_
  refine zAB 9 (.pointer (some ⟨bw,2,none⟩)) rfl (by kernel_rfl) (by kernel_rfl) (by kernel_rfl) (fun _ _ _ h =>h) (by kernel_rfl) trivial (fun _ _ =>by kernel_rfl) ?_
  refine zAO 10 rfl (by kernel_rfl) (by kernel_rfl) (fun K hK =>?_)
  have p2:=zAA (i:=2) hf3 rfl
  have z2:=zAC (i:=2) hf3
  go_simp
  refine hK _ _ trivial ?_
  refine wpAnyH_done (by kernel_rfl) ?_ _
  go_simp
  go_end0
  exact ⟨rfl,hf1,hf2⟩
theorem zPW (S:Nat→Prop) (bw bt:Nat) (t:List UInt8) (ver:Int) (hv:ver<2) (out:List UInt8) (ht:(blob t).length≤10000) (hbig:out.length≤1000000000) (w:World) (hS:∀ k,w.heap.size≤k→S k) (h:Wr w S bw ver bt out) :
  Calls Tryz.prog 174 #[.pointer (some ⟨bw,0,none⟩),.string (tx t)] w fun e w' =>e=.returned (.tuple #[])∧Wr w' S bw ver bt (out++(blob t))∧Turn S w w':=by
 obtain ⟨i0,ii0,iz0,iz1,iz2⟩:=info_parts zHP
 obtain ⟨hSb,va,hh,hown,hs⟩:=h
 have q0:=zAA (i:=0) hh rfl
 have q2:=zAA (i:=2) hh rfl
 have HP:=yh (fun W =>zJG t (by omega) W)
 have HVB:=yh ht
 have d1:decide (ver<2)=true:=decide_eq_true hv
 have HH:=yh hh
 have HO:=yh hown
 have HBIG:=yh hbig
 have FIN:Hid (∀ {w2 w3:World} {v':Value} {xs:List UInt8},Below w.heap.size w w2→w3.ownsRow 0 5 1 v' (out.length+xs.length) (out.map bv++xs.map bv)→w2.grownBy w3 va.ownBlock→(v'.ownBlock=va.ownBlock∨v'.ownBlock=some w2.heap.size)→Wr (w3.setCell ⟨bw,2,none⟩ v') S bw ver bt (out++xs)∧Turn S w (w3.setCell ⟨bw,2,none⟩ v')∧w3.heap[bw]? = some (.cells #[.int .i64 ver,.pointer (some ⟨bt,0,none⟩),va] 218 (0,0))):=zLR hSb hh hown hs hS
 have HLT:Hid (bw<w.heap.size):=by
  show _<_
  rcases Nat.lt_or_ge bw w.heap.size with h | h
  ·exact h
  ·rw [Array.getElem?_eq_none h] at hh;cases hh
 clear hh hown hbig hs hS hSb
 go_enter Tryz.func174,Tryz.ntmps174
 go_wp2_with fail
 refine wp_region_held (S:=fun _ =>True) (by kernel_rfl) ?_
 refine zAB 0 (.pointer (some ⟨bw,0,none⟩)) rfl (by kernel_rfl) (by kernel_rfl) (by kernel_rfl) (fun _ _ _ h =>h) (by kernel_rfl) trivial (fun _ _ =>by kernel_rfl) ?_
 refine zAB 1 (.pointer (some ⟨bw,0,none⟩)) rfl (by kernel_rfl) (by kernel_rfl) (by kernel_rfl) (fun _ _ _ h =>h) (by kernel_rfl) trivial (fun _ _ =>by kernel_rfl) ?_
 refine zAB 2 (.pointer (some ⟨bw,0,none⟩)) rfl (by kernel_rfl) (by kernel_rfl) (by kernel_rfl) (fun _ _ _ h =>h) (by kernel_rfl) trivial (fun _ _ =>by kernel_rfl) ?_
 refine zAB 3 (.pointer (some ⟨bw,2,none⟩)) rfl (by kernel_rfl) (by kernel_rfl) (by kernel_rfl) (fun _ _ _ h =>h) (by kernel_rfl) trivial (fun _ _ =>by kernel_rfl) ?_
 refine zAB 5 (.string (tx t)) rfl (by kernel_rfl) (by kernel_rfl) (by kernel_rfl) (fun _ _ _ h =>h) (by kernel_rfl) trivial (fun _ _ =>by kernel_rfl) ?_
 refine zCq 4 6 rfl rfl (by kernel_rfl) (by kernel_rfl) (by kernel_rfl) (fun K hK =>?_) (fun K hK =>?_)
 ·go_simp
  refine hK _ _ trivial ?_
  clear hK K
  refine zAO 6 rfl (by kernel_rfl) (by kernel_rfl) (fun K hK =>?_)
  go_simp
  refine (HP.out _).mono ?_
  rintro e w2 ⟨v2,rfl,ho2,hb2⟩
  have HB2:Below w.heap.size w w2:=((Below.refl _ w).drew).trans hb2
  refine hK _ _ trivial ?_
  clear hK K
  refine zAO 7 rfl (by kernel_rfl) (by kernel_rfl) (fun K hK =>?_)
  obtain ⟨A2,c2,rfl,hc2⟩:=zAL ho2
  refine zAk (.tmp 13) (.tmp 15) 59 rfl 0 5 i0 _ 1 1 Tryz.underlying59 ii0 iz0 iz1 iz2 rfl (by decide) va out.length (out.map bv) rfl (zGK HO.out HB2) A2 (blob t).length c2 w2.heap.size ((blob t).map bv) rfl hc2 (zAD.of_own ho2) (zCW _) (by have h1:=HBIG.out;have h2:=HVB.out;unfold maxLen;omega) (by have h1:=HBIG.out;have h2:=HVB.out;omega) (by omega) ?_
  intro v3 w3 ho3 hg3 hv3
  obtain ⟨hf1,hf2,hf3⟩:=FIN.out HB2 ho3 hg3 hv3
  obtain ⟨A3,c3,rfl,_⟩:=zAL ho3
  refine hK _ _ trivial ?_
  clear hK K
  refine zAB 8 (.pointer (some ⟨bw,0,none⟩)) rfl (by kernel_rfl) (by kernel_rfl) (by kernel_rfl) (fun _ _ _ h =>h) (by kernel_rfl) trivial (fun _ _ =>by kernel_rfl) ?_
  refine zAB 9 (.pointer (some ⟨bw,2,none⟩)) rfl (by kernel_rfl) (by kernel_rfl) (by kernel_rfl) (fun _ _ _ h =>h) (by kernel_rfl) trivial (fun _ _ =>by kernel_rfl) ?_
  refine zAO 10 rfl (by kernel_rfl) (by kernel_rfl) (fun K hK =>?_)
  have p2:=zAA (i:=2) hf3 rfl
  have z2:=zAC (i:=2) hf3
  go_simp
  refine hK _ _ trivial ?_
  refine wpAnyH_done (by kernel_rfl) ?_ _
  go_simp
  go_wp2
  refine bodyPost_ret (results_none rfl _ _ _) rfl ?_
  exact ⟨rfl,hf1,hf2⟩
 ·go_simp
  refine (HP.out _).mono ?_
  rintro e w2 ⟨v2,rfl,ho2,hb2⟩
  have HB2:Below w.heap.size w w2:=((Below.refl _ w).drew).trans hb2
  refine hK _ _ trivial ?_
  clear hK K
  refine zAO 4 rfl (by kernel_rfl) (by kernel_rfl) (fun K hK =>?_)
  have r2:=zAA (i:=2) ((HB2.block bw HLT.out).trans HH.out) rfl
  go_simp
  refine hK _ _ trivial ?_
  clear hK K
  refine zAO 7 rfl (by kernel_rfl) (by kernel_rfl) (fun K hK =>?_)
  obtain ⟨A2,c2,rfl,hc2⟩:=zAL ho2
  refine zAk (.tmp 13) (.tmp 15) 59 rfl 0 5 i0 _ 1 1 Tryz.underlying59 ii0 iz0 iz1 iz2 rfl (by decide) va out.length (out.map bv) rfl (zGK HO.out HB2) A2 (blob t).length c2 w2.heap.size ((blob t).map bv) rfl hc2 (zAD.of_own ho2) (zCW _) (by have h1:=HBIG.out;have h2:=HVB.out;unfold maxLen;omega) (by have h1:=HBIG.out;have h2:=HVB.out;omega) (by omega) ?_
  intro v3 w3 ho3 hg3 hv3
  obtain ⟨hf1,hf2,hf3⟩:=FIN.out HB2 ho3 hg3 hv3
  obtain ⟨A3,c3,rfl,_⟩:=zAL ho3
  refine hK _ _ trivial ?_
  clear hK K
  refine zAB 8 (.pointer (some ⟨bw,0,none⟩)) rfl (by kernel_rfl) (by kernel_rfl) (by kernel_rfl) (fun _ _ _ h =>h) (by kernel_rfl) trivial (fun _ _ =>by kernel_rfl) ?_
  refine zAB 9 (.pointer (some ⟨bw,2,none⟩)) rfl (by kernel_rfl) (by kernel_rfl) (by kernel_rfl) (fun _ _ _ h =>h) (by kernel_rfl) trivial (fun _ _ =>by kernel_rfl) ?_
  refine zAO 10 rfl (by kernel_rfl) (by kernel_rfl) (fun K hK =>?_)
  have p2:=zAA (i:=2) hf3 rfl
  have z2:=zAC (i:=2) hf3
  go_simp
  refine hK _ _ trivial ?_
  refine wpAnyH_done (by kernel_rfl) ?_ _
  go_simp
  go_wp2
  refine bodyPost_ret (results_none rfl _ _ _) rfl ?_
  exact ⟨rfl,hf1,hf2⟩
theorem zEA {z:Int} (h0:-9223372036854775808≤z) (h1:z≤9223372036854775807):IntKind.i64.wrap z=z:=by simp [IntKind.wrap,IntKind.signed,IntKind.bits];omega
def zAz (P:Prop) (e:Ending):Prop:=∃ q:Bool,(q=true ↔ P)∧e=.returned (.bool q)
theorem zBY {P:Prop} (h:P):zAz P (.returned (.bool true)):=⟨true,by simp [h],rfl⟩
theorem zAl {P:Prop} (h:¬ P):zAz P (.returned (.bool false)):=⟨false,by simp [h],rfl⟩
theorem zAz.iff {P Q:Prop} {e:Ending} (h:zAz P e) (hpq:P ↔ Q):zAz Q e:=by
 obtain ⟨q,h1,h2⟩:=h
 exact ⟨q,h1.trans hpq,h2⟩
theorem zAz.yes {P:Prop} {e:Ending} (h:zAz P e) (hp:P):e=.returned (.bool true):=by
 obtain ⟨q,h1,h2⟩:=h
 rw [h2,h1.2 hp]
theorem zAz.no {P:Prop} {e:Ending} (h:zAz P e) (hp:¬ P):e=.returned (.bool false):=by
 obtain ⟨q,h1,h2⟩:=h
 rw [h2,show q=false from by rw [← Bool.not_eq_true,h1];exact hp]
def zAh (r:Rc) (A:Option Addr) (n c:Nat):Array Value:=#[.int .i64 r.kind,.string (tx r.target),.int .u64 r.rule,.slice A n c,.int .u64 r.out,.int .u64 r.time,.string (tx r.tag)]
def Fits (r:Rc) (l:List Dp):Prop:=r.target.length≤maxLen∧r.tag.length≤maxLen∧∀ d ∈ l,d.name.length≤maxLen
structure Rw where
 r:Rc
 A:Option Addr
 n:Nat
 c:Nat
 l:List Dp
def Rw.cells (x:Rw):List Value:=[.int .i64 x.r.kind,.string (tx x.r.target),.int .u64 x.r.rule,.slice x.A x.n x.c,.int .u64 x.r.out,.int .u64 x.r.time,.string (tx x.r.tag)]
def rws (xs:List Rw):List Value:=xs.flatMap Rw.cells
def Rw.say (x:Rw):Rc×List Dp:=(x.r,x.l)
theorem zBD (x:Rw):x.cells.length=7:=rfl
theorem zRd:rws []=[]:=rfl
theorem zBe (x:Rw) (xs:List Rw):rws (x :: xs)=x.cells++rws xs:=rfl
theorem zCH (xs ys:List Rw):rws (xs++ys)=rws xs++rws ys:=List.flatMap_append
theorem zCh:∀ xs:List Rw,(rws xs).length=xs.length * 7
 | [] =>rfl
 | x :: xs =>by rw [zBe,List.length_append,zCh xs,zBD,List.length_cons];omega
theorem zJs:∀ (xs:List Rw) (i:Nat) (x:Rw),xs[i]? = some x→∀ k u,x.cells[k]? = some u→(rws xs)[i * 7+k]? = some u
 | [],i,x,h =>by simp at h
 | a :: xs,0,x,h =>fun k u hu =>by
  obtain rfl:a=x:=by simpa using h
  have hk:k<7:=(List.getElem?_eq_some_iff.1 hu).1
  rw [zBe,List.getElem?_append_left (by rw [zBD];omega),Nat.zero_mul,Nat.zero_add]
  exact hu
 | a :: xs,i+1,x,h =>fun k u hu =>by
  rw [zBe,List.getElem?_append_right (by rw [zBD];omega),zBD,show (i+1) * 7+k - 7=i * 7+k by omega]
  exact zJs xs i x (by simpa using h) k u hu
theorem zGr:∀ (xs:List Rw) (j:Nat) (u:Value),(rws xs)[j]? = some u→∃ x,xs[j / 7]? = some x∧x.cells[j % 7]? = some u
 | [],j,u,h =>by simp [rws] at h
 | a :: xs,j,u,h =>by
  rw [zBe] at h
  rcases Nat.lt_or_ge j 7 with hlt | hge
  ·rw [List.getElem?_append_left (by rw [zBD];exact hlt)] at h
   exact ⟨a,by rw [show j / 7=0 by omega];rfl,by rw [show j % 7=j by omega];exact h⟩
  ·rw [List.getElem?_append_right (by rw [zBD];exact hge),zBD] at h
   obtain ⟨x,h1,h2⟩:=zGr xs (j - 7) u h
   exact ⟨x,by rw [show j / 7=(j - 7) / 7+1 by omega];simpa using h1,by rw [show j % 7=(j - 7) % 7 by omega];exact h2⟩
theorem zDZ (xs:List Rw):∀ u ∈ rws xs,u.oneCell'=true:=by
 intro u hu
 obtain ⟨x,_,hx⟩:=List.mem_flatMap.1 hu
 simp only [Rw.cells,List.mem_cons,List.not_mem_nil,or_false] at hx
 rcases hx with rfl | rfl | rfl | rfl | rfl | rfl | rfl <;> rfl
theorem zDS (a:Addr) (m k:Nat):a.add (m+(k+1))=⟨(a.add m).block,(a.add m).off+(k+1),none⟩:=by
 unfold Addr.add
 by_cases h:m=0
 ·subst h;simp
 ·simp [h,Nat.add_assoc]
theorem zBX {W:World} {B:Nat} {A:Option Addr} {n:Nat} {xs:List Rw} (h:zAD W B 7 A n (rws xs)) (i:Nat) (x:Rw) (hx:xs[i]? = some x) :
  ∃ ad:Addr,A=some ad∧ad.block<B∧W.cell? (ad.add (i * 7))=some (.int .i64 x.r.kind)∧W.cell? ⟨(ad.add (i * 7)).block,(ad.add (i * 7)).off+1,none⟩=some (.string (tx x.r.target))∧W.cell? ⟨(ad.add (i * 7)).block,(ad.add (i * 7)).off+2,none⟩=some (.int .u64 x.r.rule)∧W.cell? ⟨(ad.add (i * 7)).block,(ad.add (i * 7)).off+3,none⟩=some (.slice x.A x.n x.c)∧W.cell? ⟨(ad.add (i * 7)).block,(ad.add (i * 7)).off+4,none⟩=some (.int .u64 x.r.out)∧W.cell? ⟨(ad.add (i * 7)).block,(ad.add (i * 7)).off+5,none⟩=some (.int .u64 x.r.time)∧W.cell? ⟨(ad.add (i * 7)).block,(ad.add (i * 7)).off+6,none⟩=some (.string (tx x.r.tag)):=by
 have hn:0<n:=by
  have h1:=h.1
  rw [zCh] at h1
  have:=(List.getElem?_eq_some_iff.1 hx).1
  omega
 obtain ⟨ad,rfl,hb,hc⟩:=h.2 hn
 have hat:=fun k u hu =>hc _ _ (zJs xs i x hx k u hu)
 refine ⟨ad,rfl,hb,hat 0 _ rfl,?_,?_,?_,?_,?_,?_⟩
 ·rw [← zDS ad (i * 7) 0];exact hat 1 _ rfl
 ·rw [← zDS ad (i * 7) 1];exact hat 2 _ rfl
 ·rw [← zDS ad (i * 7) 2];exact hat 3 _ rfl
 ·rw [← zDS ad (i * 7) 3];exact hat 4 _ rfl
 ·rw [← zDS ad (i * 7) 4];exact hat 5 _ rfl
 ·rw [← zDS ad (i * 7) 5];exact hat 6 _ rfl
def Recs (w:World) (B:Nat) (A:Option Addr) (n:Nat) (xs:List Rw):Prop :=
 zAD w B 7 A n (rws xs)∧∀ x ∈ xs,zAD w B 3 x.A x.n (dps x.l)∧(x.A=none→x.c=0)
theorem Recs.len {w:World} {B:Nat} {A:Option Addr} {n:Nat} {xs:List Rw} (h:Recs w B A n xs):xs.length=n:=by
 have:=h.1.1
 rw [zCh] at this
 omega
theorem Recs.more {w:World} {B B':Nat} {A:Option Addr} {n:Nat} {xs:List Rw} (h:Recs w B A n xs) (hB:B≤B'):Recs w B' A n xs :=
 ⟨h.1.more hB,fun x hx =>⟨(h.2 x hx).1.more hB,(h.2 x hx).2⟩⟩
theorem Recs.below {w w':World} {B:Nat} {A:Option Addr} {n:Nat} {xs:List Rw} (h:Recs w B A n xs) (hb:Below B w w'):Recs w' B A n xs :=
 ⟨h.1.below hb,fun x hx =>⟨(h.2 x hx).1.below hb,(h.2 x hx).2⟩⟩
theorem Recs.nil (w:World) (B:Nat) (A:Option Addr):Recs w B A 0 []:=⟨⟨by simp [rws],fun h =>absurd h (by omega)⟩,by simp⟩
theorem zBt {w w':World} {base b n c k:Nat} {A:Option Addr} {l:List Dp} {v:Value} {xs:List Value} (hz:Deps w base A n c l) (hv:w.ownsRow b 41 7 v k xs) (hg:w.grownBy w' v.ownBlock):Deps w' base A n c l :=
 ⟨zBL hz.1 (zBE hv hz.1 (by decide)) hg,hz.2⟩
theorem zEv {w w':World} {base n c:Nat} {A:Option Addr} {l:List Dp} (h:Deps w base A n c l) (hb:Below w.heap.size w w'):Deps w' base A n c l:=⟨zAK h.1 hb,h.2⟩
theorem zCM {w:World} {base n c:Nat} {A:Option Addr} {l:List Dp} (h:Deps w base A n c l) (o:Obj):Deps (w.alloc o) base A n c l:=⟨World.ownsRow.alloc h.1 o,h.2⟩
theorem zEX {w:World} {base base' n c:Nat} {A:Option Addr} {l:List Dp} (h:Deps w base A n c l) (hb:base'≤base):Deps w base' A n c l:=⟨zAT h.1 hb,h.2⟩
theorem zCZ (w:World) (x:Rw):zAD (w.alloc (.cells #[.int .i64 x.r.kind,.string (tx x.r.target),.int .u64 x.r.rule,.slice x.A x.n x.c,.int .u64 x.r.out,.int .u64 x.r.time,.string (tx x.r.tag)] 41)) (w.heap.size+1) 7 (some ⟨w.heap.size,0,none⟩) 1 (rws [x]):=by
 have hh:=zAE w (.cells #[.int .i64 x.r.kind,.string (tx x.r.target),.int .u64 x.r.rule,.slice x.A x.n x.c,.int .u64 x.r.out,.int .u64 x.r.time,.string (tx x.r.tag)] 41)
 refine ⟨rfl,fun _ =>⟨_,rfl,by show w.heap.size<_;omega,fun j u hu =>?_⟩⟩
 have hj:j<7:=(List.getElem?_eq_some_iff.1 hu).1
 have h2:=zAA (i:=j) hh (by simpa [rws,Rw.cells] using hu)
 rw [show (⟨w.heap.size,0,none⟩:Addr).add j=⟨w.heap.size,j,none⟩ from by unfold Addr.add;split <;> simp_all]
 exact h2
theorem zGm (W:World) (ad:Addr) (P:Rw→Prop):∀ n:Nat,(∀ i,i<n→∃ x:Rw,P x∧∀ k u,x.cells[k]? = some u→W.cell? (ad.add (i * 7+k))=some u) →
  ∃ xs:List Rw,xs.length=n∧(∀ x ∈ xs,P x)∧∀ i x,xs[i]? = some x→∀ k u,x.cells[k]? = some u→W.cell? (ad.add (i * 7+k))=some u
 | 0,_ =>⟨[],rfl,by simp,by simp⟩
 | n+1,h =>by
  obtain ⟨ts,h1,h2,h3⟩:=zGm W ad P n (fun i hi =>h i (by omega))
  obtain ⟨t,g1,g2⟩:=h n (by omega)
  refine ⟨ts++[t],by simp [h1],?_,?_⟩
  ·intro u hu
   rcases List.mem_append.1 hu with hu | hu
   ·exact h2 u hu
   ·have:u=t:=by simpa using hu
    rw [this];exact g1
  ·intro i u hu
   rcases Nat.lt_or_ge i ts.length with hlt | hge
   ·rw [List.getElem?_append_left hlt] at hu
    exact h3 i u hu
   ·rw [List.getElem?_append_right hge] at hu
    have hi:i=n:=by
     rcases Nat.lt_or_ge (i - ts.length) 1 with h4 | h4
     ·omega
     ·rw [List.getElem?_eq_none (by simpa using h4)] at hu;cases hu
    subst hi
    rw [h1,Nat.sub_self] at hu
    have:t=u:=by simpa using hu
    rw [← this];exact g2
def nmB (ver:Int) (tl:List (List UInt8)) (s:List UInt8):List UInt8:=if ver<2 then blob s else vb (tnum tl s)
def depB (ver:Int) (tl:List (List UInt8)) (d:Dp):List UInt8:=if ver<3 then nmB ver tl d.name else vb (2 * tnum tl d.name+if d.order then 1 else 0)
theorem zBS {tl:List (List UInt8)} {s:List UInt8} (h:tl.length≤1073741824):tnum tl s≤1073741824:=by
 by_cases hs:s ∈ tl
 ·have:=zLM hs;omega
 ·unfold tnum;rw [if_neg hs];omega
theorem zAm {n:Nat} (h:n≤4000000000):n<top:=by unfold top;omega
theorem zMc {s:List UInt8} (h:s.length≤64):(blob s).length≤74:=by
 rw [zDV]
 have:=zBQ s.length (zAm (by omega))
 omega
theorem zHv {ver:Int} {tl:List (List UInt8)} {s:List UInt8} (h:s.length≤64) (ht:tl.length≤1073741824):(nmB ver tl s).length≤74:=by
 unfold nmB
 split
 ·exact zMc h
 ·have:=zBQ (tnum tl s) (zAm (by have:=zBS (s:=s) ht;omega));omega
theorem zJI {ver:Int} {tl:List (List UInt8)} {d:Dp} (h:d.name.length≤64) (ht:tl.length≤1073741824):(depB ver tl d).length≤74:=by
 unfold depB
 split
 ·exact zHv h ht
 ·have:=zBQ (2 * tnum tl d.name+if d.order then 1 else 0) (zAm (by have:=zBS (s:=d.name) ht;split <;> omega));omega
theorem zGS (S T:Nat→Prop) (bw bt N:Nat) (ver:Int) (out s:List UInt8) (tl:List (List UInt8)) (hs:s.length≤64) (w:World) (h:Wr w S bw ver bt out) (hT:Tab w T bt N tl) :
  Calls Tryz.prog 177 #[.pointer (some ⟨bw,0,none⟩),.string (tx s)] w fun e w' =>e=.returned (.int .u64 (tnum tl s:Int))∧w=w':=by
 obtain ⟨_,va,hh,_,_⟩:=h
 have q1:=zAA (i:=1) hh rfl
 have HF:=yh (zOX T bt N tl s (by unfold maxLen;omega) w hT)
 unfold tsv at HF
 clear hh hT
 go_enter Tryz.func177,Tryz.ntmps177
 go_wp2_with (go_at_call 183;refine HF.out.mono ?_;rintro e w2 ⟨rfl,rfl⟩)
 go_ret
 exact ⟨rfl,rfl⟩
theorem zPX (S T:Nat→Prop) (bw bt N:Nat) (ver:Int) (hv:¬ ver<2) (out s:List UInt8) (tl:List (List UInt8)) (hs:s.length≤64) (ht:tl.length≤1073741824) (hbig:out.length≤1000000000) (w:World) (hS:∀ k,w.heap.size≤k→S k) (h:Wr w S bw ver bt out) (hT:Tab w T bt N tl) :
  Calls Tryz.prog 174 #[.pointer (some ⟨bw,0,none⟩),.string (tx s)] w fun e w' =>e=.returned (.tuple #[])∧Wr w' S bw ver bt (out++vb (tnum tl s))∧Turn S w w':=by
 have HI:=yh (zGS S T bw bt N ver out s tl hs w h hT)
 have HN:=yh (zBx S bw bt (tnum tl s) ver out (zAm (by have:=zBS (s:=s) ht;omega)) hbig w hS h)
 obtain ⟨_,va,hh,_,_⟩:=h
 have q0:=zAA (i:=0) hh rfl
 have d1:decide (ver<2)=false:=decide_eq_false hv
 clear hh hT hS hv
 go_enter Tryz.func174,Tryz.ntmps174
 go_wp2_with (first
  | (go_at_call 175;refine HN.out.mono ?_;rintro e w3 ⟨rfl,hw3,ht3⟩)
  | (go_at_call 177;refine HI.out.mono ?_;rintro e w2 ⟨rfl,rfl⟩))
 go_end0
 exact ⟨rfl,hw3,ht3⟩
theorem zIo (S T:Nat→Prop) (bw bt N:Nat) (ver:Int) (out s:List UInt8) (tl:List (List UInt8)) (hs:s.length≤64) (ht:tl.length≤1073741824) (hbig:out.length≤1000000000) (w:World) (hS:∀ k,w.heap.size≤k→S k) (h:Wr w S bw ver bt out) (hT:Tab w T bt N tl) :
  Calls Tryz.prog 174 #[.pointer (some ⟨bw,0,none⟩),.string (tx s)] w fun e w' =>e=.returned (.tuple #[])∧Wr w' S bw ver bt (out++nmB ver tl s)∧Turn S w w':=by
 unfold nmB
 by_cases hv:ver<2
 ·rw [if_pos hv]
  exact zPW S bw bt s ver hv out (by have:=zMc hs;omega) hbig w hS h
 ·rw [if_neg hv]
  exact zPX S T bw bt N ver hv out s tl hs ht hbig w hS h hT
theorem zFV {w:World} {S:Nat→Prop} {bw bt:Nat} {ver:Int} {out:List UInt8} (h:Wr w S bw ver bt out) (o:Obj):Wr (w.alloc o) S bw ver bt out:=by
 obtain ⟨h1,va,h2,h3,h4⟩:=h
 refine ⟨h1,va,(Below.heap_alloc w o bw ?_).trans h2,World.ownsRow.alloc h3 o,h4⟩
 rcases Nat.lt_or_ge bw w.heap.size with h | h
 ·exact h
 ·rw [Array.getElem?_eq_none h] at h2;cases h2
theorem zCb {w:World} {T:Nat→Prop} {b N:Nat} {l:List (List UInt8)} (h:Tab w T b N l) (o:Obj):Tab (w.alloc o) T b N l:=h.keep fun k _ hk =>Below.heap_alloc w o k hk
theorem zOg (S T:Nat→Prop) (bw bt N:Nat) (ver:Int) (hv:ver<3) (out:List UInt8) (d:Dp) (tl:List (List UInt8)) (hs:d.name.length≤64) (ht:tl.length≤1073741824) (hbig:out.length≤1000000000) (w:World) (hS:∀ k,w.heap.size≤k→S k) (h:Wr w S bw ver bt out) (hT:Tab w T bt N tl) :
  Calls Tryz.prog 176 #[.pointer (some ⟨bw,0,none⟩),.agg #[.string (tx d.name),.int .u64 d.hash,.bool d.order]] w fun e w' =>e=.returned (.tuple #[])∧Wr w' S bw ver bt (out++nmB ver tl d.name)∧Turn S w w':=by
 have hS2:∀ k,(w.alloc (.cells #[.string (tx d.name),.int .u64 d.hash,.bool d.order] 95)).heap.size≤k→S k:=fun k hk =>hS k (by simp at hk;omega)
 have HA:=yh (zAE w (.cells #[.string (tx d.name),.int .u64 d.hash,.bool d.order] 95))
 have HTU:Hid (Turn S w (w.alloc (.cells #[.string (tx d.name),.int .u64 d.hash,.bool d.order] 95))):=Turn.of_below ((Below.refl _ w).alloc (Nat.le_refl _) _)
 have hw2:=zFV h (.cells #[.string (tx d.name),.int .u64 d.hash,.bool d.order] 95)
 have HN:=yh (zIo S T bw bt N ver out d.name tl hs ht hbig _ hS2 hw2 (zCb hT _))
 have d1:decide (ver<3)=true:=decide_eq_true hv
 obtain ⟨_,va,hh,_,_⟩:=hw2
 have q0:=zAA (i:=0) hh rfl
 have e0:=zAA (i:=0) HA.out rfl
 have e1:=zAA (i:=1) HA.out rfl
 have e2:=zAA (i:=2) HA.out rfl
 clear hh hT hS hS2 h
 go_enter Tryz.func176,Tryz.ntmps176
 go_wp2_with (go_at_call 174;refine HN.out.mono ?_;rintro e w3 ⟨rfl,hw3,ht3⟩)
 first | go_end0 | (refine bodyPost_ret (results_none rfl _ _ _) rfl ?_)
 exact ⟨rfl,hw3,HTU.out.trans ht3 (fun _ _ h =>h)⟩
theorem zOi (S T:Nat→Prop) (bw bt N:Nat) (ver:Int) (hv:¬ ver<3) (out:List UInt8) (dn:List UInt8) (dh:Int) (tl:List (List UInt8)) (hs:dn.length≤64) (ht:tl.length≤1073741824) (hbig:out.length≤1000000000) (w:World) (hS:∀ k,w.heap.size≤k→S k) (h:Wr w S bw ver bt out) (hT:Tab w T bt N tl) :
  Calls Tryz.prog 176 #[.pointer (some ⟨bw,0,none⟩),.agg #[.string (tx dn),.int .u64 dh,.bool true]] w fun e w' =>e=.returned (.tuple #[])∧Wr w' S bw ver bt (out++vb (2 * tnum tl dn+1))∧Turn S w w':=by
 have hS2:∀ k,(w.alloc (.cells #[.string (tx dn),.int .u64 dh,.bool true] 95)).heap.size≤k→S k:=fun k hk =>hS k (by simp at hk;omega)
 have HA:=yh (zAE w (.cells #[.string (tx dn),.int .u64 dh,.bool true] 95))
 have HTU:Hid (Turn S w (w.alloc (.cells #[.string (tx dn),.int .u64 dh,.bool true] 95))):=Turn.of_below ((Below.refl _ w).alloc (Nat.le_refl _) _)
 have hw2:=zFV h (.cells #[.string (tx dn),.int .u64 dh,.bool true] 95)
 have HI:=yh (zGS S T bw bt N ver out dn tl hs _ hw2 (zCb hT _))
 have hle:=zBS (s:=dn) ht
 have HN:=yh (zBx S bw bt (2 * tnum tl dn+1) ver out (zAm (by omega)) hbig _ hS2 hw2)
 obtain ⟨m,hm⟩:∃ m,m=tnum tl dn:=⟨_,rfl⟩
 rw [← hm] at HI HN hle ⊢
 clear hm
 have d1:decide (ver<3)=false:=decide_eq_false hv
 push_cast at HN
 obtain ⟨_,va,hh,_,_⟩:=hw2
 have q0:=zAA (i:=0) hh rfl
 have e0:=zAA (i:=0) HA.out rfl
 have e1:=zAA (i:=1) HA.out rfl
 have e2:=zAA (i:=2) HA.out rfl
 clear hh hT hS hS2 h
 go_enter Tryz.func176,Tryz.ntmps176
 go_wp2_with (first
  | (go_at_call 175;refine HN.out.mono ?_;rintro e w3 ⟨rfl,hw3,ht3⟩)
  | (go_at_call 177;refine HI.out.mono ?_;rintro e w2 ⟨rfl,rfl⟩))
 first | go_end0 | (refine bodyPost_ret (results_none rfl _ _ _) rfl ?_)
 exact ⟨rfl,hw3,HTU.out.trans ht3 (fun _ _ h =>h)⟩
theorem zMi (S T:Nat→Prop) (bw bt N:Nat) (ver:Int) (hv:¬ ver<3) (out:List UInt8) (dn:List UInt8) (dh:Int) (tl:List (List UInt8)) (hs:dn.length≤64) (ht:tl.length≤1073741824) (hbig:out.length≤1000000000) (w:World) (hS:∀ k,w.heap.size≤k→S k) (h:Wr w S bw ver bt out) (hT:Tab w T bt N tl) :
  Calls Tryz.prog 176 #[.pointer (some ⟨bw,0,none⟩),.agg #[.string (tx dn),.int .u64 dh,.bool false]] w fun e w' =>e=.returned (.tuple #[])∧Wr w' S bw ver bt (out++vb (2 * tnum tl dn))∧Turn S w w':=by
 have hS2:∀ k,(w.alloc (.cells #[.string (tx dn),.int .u64 dh,.bool false] 95)).heap.size≤k→S k:=fun k hk =>hS k (by simp at hk;omega)
 have HA:=yh (zAE w (.cells #[.string (tx dn),.int .u64 dh,.bool false] 95))
 have HTU:Hid (Turn S w (w.alloc (.cells #[.string (tx dn),.int .u64 dh,.bool false] 95))):=Turn.of_below ((Below.refl _ w).alloc (Nat.le_refl _) _)
 have hw2:=zFV h (.cells #[.string (tx dn),.int .u64 dh,.bool false] 95)
 have HI:=yh (zGS S T bw bt N ver out dn tl hs _ hw2 (zCb hT _))
 have hle:=zBS (s:=dn) ht
 have HN:=yh (zBx S bw bt (2 * tnum tl dn) ver out (zAm (by omega)) hbig _ hS2 hw2)
 obtain ⟨m,hm⟩:∃ m,m=tnum tl dn:=⟨_,rfl⟩
 rw [← hm] at HI HN hle ⊢
 clear hm
 have d1:decide (ver<3)=false:=decide_eq_false hv
 push_cast at HN
 obtain ⟨_,va,hh,_,_⟩:=hw2
 have q0:=zAA (i:=0) hh rfl
 have e0:=zAA (i:=0) HA.out rfl
 have e1:=zAA (i:=1) HA.out rfl
 have e2:=zAA (i:=2) HA.out rfl
 clear hh hT hS hS2 h
 go_enter Tryz.func176,Tryz.ntmps176
 go_wp2_with (first
  | (go_at_call 175;refine HN.out.mono ?_;rintro e w3 ⟨rfl,hw3,ht3⟩)
  | (go_at_call 177;refine HI.out.mono ?_;rintro e w2 ⟨rfl,rfl⟩))
 first | go_end0 | (refine bodyPost_ret (results_none rfl _ _ _) rfl ?_)
 exact ⟨rfl,hw3,HTU.out.trans ht3 (fun _ _ h =>h)⟩
theorem zQp (S T:Nat→Prop) (bw bt N:Nat) (ver:Int) (out:List UInt8) (d:Dp) (tl:List (List UInt8)) (hs:d.name.length≤64) (ht:tl.length≤1073741824) (hbig:out.length≤1000000000) (w:World) (hS:∀ k,w.heap.size≤k→S k) (h:Wr w S bw ver bt out) (hT:Tab w T bt N tl) :
  Calls Tryz.prog 176 #[.pointer (some ⟨bw,0,none⟩),.agg #[.string (tx d.name),.int .u64 d.hash,.bool d.order]] w fun e w' =>e=.returned (.tuple #[])∧Wr w' S bw ver bt (out++depB ver tl d)∧Turn S w w':=by
 unfold depB
 by_cases hv:ver<3
 ·rw [if_pos hv]
  exact zOg S T bw bt N ver hv out d tl hs ht hbig w hS h hT
 ·rw [if_neg hv]
  obtain ⟨dn,dh,dor⟩:=d
  cases dor
  ·exact zMi S T bw bt N ver hv out dn dh tl hs ht hbig w hS h hT
  ·exact zOi S T bw bt N ver hv out dn dh tl hs ht hbig w hS h hT
end Go.Proofs.YtekchkfjgofnkaaGreatDoor
