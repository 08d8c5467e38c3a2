/- Texts of one proof. -/
import Derived.Test.YtfbgmehicmpdiaaGreatDoorMx32
import Derived.Test.YtfbgmehicmpdiaaGreatDoorMx41
set_option maxRecDepth 100000
set_option maxHeartbeats 8000000
namespace Go.Proofs.YtfbgmehicmpdiaaGreatDoor
open Go.RowKit
theorem zKT {base p b N:Nat} {σ:FsSt} {F:List UInt8→Option Value} {a:Ac} {w w1 w':World} {c:Int} (h1:Below w.heap.size w w1) (h:DidA base p b N σ F a w1 c w'):DidA base p b N σ F a w c w':=by
 obtain ⟨σ',N',F',a1,a2,a3,a4,a5⟩:=h
 exact ⟨σ',N',F',a1,a2,(Turn.of_below h1).trans a3 (fun _ _ h =>h),fun k hk =>(a4 k hk).imp id (fun h =>Nat.le_trans h1.size h),a5⟩
theorem zPc (p b N base:Nat) (σ:FsSt) (F:List UInt8→Option Value) (hN:N≤100000) (hf:zAX σ.f) (hg:zAX σ.g) (w:World) (hx:FsAt w base p b N σ F) (sd:List UInt8) (hsd:sd.length≤maxLen) :
  Calls Tryz.prog 28 #[.pointer (some ⟨p,0,none⟩),.string (tx sd)] w fun e w' =>∃ z:Int,e=.returned (.int .i64 z)∧((σ.fl sd=none∧z=0∧Below w.heap.size w w')∨((σ.fl sd).isSome=true∧DidA base p b N σ F ⟨4,sd,[],[],0,[]⟩ w z w')):=by
 have HNM:=yh (zGu p b N base σ.down σ.f σ.g σ.fl F (by omega) w hx.1 hx.2)
 have HX:=yh hx
 have HARG:Hid (∀ w1,Below w.heap.size w w1→Calls Tryz.prog 49 #[.pointer (some ⟨p,0,none⟩),.string (tx sd)] w1 fun e w' =>∃ e0,e=.returned (.int .i64 e0)∧DidA base p b N σ F ⟨4,sd,[],[],0,[]⟩ w e0 w'):=fun w1 hb =>(zKq p b N base σ F hf hg w1 (hx.below hb) sd hsd).mono fun e w' ⟨e0,h1,h2⟩ =>⟨e0,h1,zKT hb h2⟩
 clear hx hf hg hsd
 go_enter Tryz.func28,Tryz.ntmps28
 go_wp2_with fail
 refine HNM.out.mono ?_
 rintro e w1 ⟨⟨A,c,ns,hns,hnl,rfl,_,ho⟩,hb1⟩
 obtain ⟨_,_,he,_,hr⟩:=zBL ho
 cases he
 have HC:=yh (zIO A ns.length c ns sd (by omega) w1 hr)
 have HNS:=yh hns
 have HB1:=yh hb1
 obtain ⟨m,hm⟩:∃ m,m=ns.length:=⟨_,rfl⟩
 rw [← hm] at HC ⊢
 clear hns hnl ho hb1 hr hm
 go_wp2_with fail
 refine HC.out.mono ?_
 rintro e w2 ⟨⟨q,rfl,hq⟩,rfl⟩
 cases q with
 | true =>
  have HIN:Hid (sd ∈ ns):=hq.1 rfl
  clear hq
  go_wp2_with fail
  refine (HARG.out _ HB1.out).mono ?_
  rintro e w3 ⟨e0,rfl,hd⟩
  have HD:=yh hd
  clear hd
  go_wp2
  go_ret
  exact ⟨e0,rfl,.inr ⟨(HNS.out.2 sd).1 HIN.out,HD.out⟩⟩
 | false =>
  have HIN:Hid (sd ∉ ns):=fun h =>by have:=hq.2 h;cases this
  clear hq
  go_wp2
  go_ret
  refine ⟨0,rfl,.inl ⟨?_,rfl,HB1.out⟩⟩
  cases e2:σ.fl sd with
  | none =>rfl
  | some y =>exact absurd ((HNS.out.2 sd).2 (by rw [e2];rfl)) HIN.out
theorem clo1 (b0 b1 p:Nat) (sd:List UInt8) (w:World) (h0:w.heap[b0]? = some (.cells #[.pointer (some ⟨p,0,none⟩)] 26)) (h1:w.heap[b1]? = some (.cells #[.string (tx sd)] 9)) (X:Int→World→Prop)
  (hc:Calls Tryz.prog 28 #[.pointer (some ⟨p,0,none⟩),.string (tx sd)] w fun e w' =>∃ z:Int,e=.returned (.int .i64 z)∧X z w') :
  Calls Tryz.prog 27 #[.pointer (some ⟨b0,0,none⟩),.pointer (some ⟨b1,0,none⟩)] w fun e w' =>∃ z:Int,e=.returned (.int .i64 z)∧X z w':=by
 have q0:=zAA (i:=0) h0 rfl
 have q1:=zAA (i:=0) h1 rfl
 have HC:=yh hc
 clear h0 h1 hc
 go_enter Tryz.func27,Tryz.ntmps27
 go_wp2_with fail
 refine HC.out.mono ?_
 rintro e w1 ⟨z,rfl,hX⟩
 have HX:=yh hX
 clear hX
 go_wp2
 go_ret
 exact ⟨z,rfl,HX.out⟩
theorem clo2 (b0 b1 b2 p:Nat) (sd:List UInt8) (A:Option Addr) (k c:Nat) (w:World) (h0:w.heap[b0]? = some (.cells #[.pointer (some ⟨p,0,none⟩)] 26)) (h1:w.heap[b1]? = some (.cells #[.string (tx sd)] 9)) (h2:w.heap[b2]? = some (.cells #[.slice A k c] 31)) (X:Int→World→Prop)
  (hc:Calls Tryz.prog 9 #[.pointer (some ⟨p,0,none⟩),.string (tx sd),.slice A k c] w fun e w' =>∃ z:Int,e=.returned (.int .i64 z)∧X z w') :
  Calls Tryz.prog 29 #[.pointer (some ⟨b0,0,none⟩),.pointer (some ⟨b1,0,none⟩),.pointer (some ⟨b2,0,none⟩)] w fun e w' =>∃ z:Int,e=.returned (.int .i64 z)∧X z w':=by
 have q0:=zAA (i:=0) h0 rfl
 have q1:=zAA (i:=0) h1 rfl
 have q2:=zAA (i:=0) h2 rfl
 have HC:=yh hc
 clear h0 h1 h2 hc
 go_enter Tryz.func29,Tryz.ntmps29
 go_wp2_with fail
 refine HC.out.mono ?_
 rintro e w1 ⟨z,rfl,hX⟩
 have HX:=yh hX
 clear hX
 go_wp2
 go_ret
 exact ⟨z,rfl,HX.out⟩
theorem clo3 (b0 b1 p:Nat) (sd:List UInt8) (w:World) (h0:w.heap[b0]? = some (.cells #[.pointer (some ⟨p,0,none⟩)] 26)) (h1:w.heap[b1]? = some (.cells #[.string (tx sd)] 9)) (X:Int→World→Prop)
  (hc:Calls Tryz.prog 18 #[.pointer (some ⟨p,0,none⟩),.string (tx sd)] w fun e w' =>∃ z:Int,e=.returned (.int .i64 z)∧X z w') :
  Calls Tryz.prog 30 #[.pointer (some ⟨b0,0,none⟩),.pointer (some ⟨b1,0,none⟩)] w fun e w' =>∃ z:Int,e=.returned (.int .i64 z)∧X z w':=by
 have q0:=zAA (i:=0) h0 rfl
 have q1:=zAA (i:=0) h1 rfl
 have HC:=yh hc
 clear h0 h1 hc
 go_enter Tryz.func30,Tryz.ntmps30
 go_wp2_with fail
 refine HC.out.mono ?_
 rintro e w1 ⟨z,rfl,hX⟩
 have HX:=yh hX
 clear hX
 go_wp2
 go_ret
 exact ⟨z,rfl,HX.out⟩
theorem clo4 (b0 b1 b2 p:Nat) (sd nm:List UInt8) (w:World) (h0:w.heap[b0]? = some (.cells #[.pointer (some ⟨p,0,none⟩)] 26)) (h1:w.heap[b1]? = some (.cells #[.string (tx sd)] 9)) (h2:w.heap[b2]? = some (.cells #[.string (tx nm)] 9)) (X:Int→World→Prop)
  (hc:Calls Tryz.prog 32 #[.pointer (some ⟨p,0,none⟩),.string (tx sd),.string (tx nm)] w fun e w' =>∃ z:Int,e=.returned (.int .i64 z)∧X z w') :
  Calls Tryz.prog 31 #[.pointer (some ⟨b0,0,none⟩),.pointer (some ⟨b1,0,none⟩),.pointer (some ⟨b2,0,none⟩)] w fun e w' =>∃ z:Int,e=.returned (.int .i64 z)∧X z w':=by
 have q0:=zAA (i:=0) h0 rfl
 have q1:=zAA (i:=0) h1 rfl
 have q2:=zAA (i:=0) h2 rfl
 have HC:=yh hc
 clear h0 h1 h2 hc
 go_enter Tryz.func31,Tryz.ntmps31
 go_wp2_with fail
 refine HC.out.mono ?_
 rintro e w1 ⟨z,rfl,hX⟩
 have HX:=yh hX
 clear hX
 go_wp2
 go_ret
 exact ⟨z,rfl,HX.out⟩
def stP (nm sd B:List UInt8) (M:Nat) (σ:FsSt) (i:Nat) (σi:FsSt):Prop:=(i<4∧StK sd B M i σ σi)∨(i=4∧StY nm sd B M σ σi)
def stW (base p b N:Nat) (F:List UInt8→Option Value) (v:World) (P:FsSt→Prop) (i:Nat) (W:World):Prop :=
 ∃ (σi:FsSt) (Ni:Nat) (Fi:List UInt8→Option Value),FsAt W base p b Ni σi Fi∧Ni≤N+2 * i∧Turn (zAS p b F) v W∧(∀ k,zAS p b Fi k→zAS p b F k∨v.heap.size≤k)∧P σi
theorem zFm {base p b N i:Nat} {F:List UInt8→Option Value} {v W w':World} {Ni:Nat} {σi:FsSt} {Fi:List UInt8→Option Value} {a:Ac} {z:Int} {P Q:FsSt→Prop} (h2:Ni≤N+2 * i) (h3:Turn (zAS p b F) v W) (h4:∀ k,zAS p b Fi k→zAS p b F k∨v.heap.size≤k)
  (hd:DidA base p b Ni σi Fi a W z w') (hs:∀ σ',((refC σi a≠0∧σ'=σi∧z=refC σi a)∨(refC σi a=0∧σ'=actS σi a∧z=zAn σi.f σi.g))→(z=0∧P σ')∨(z≠0∧Q σ')) :
  (z=0→stW base p b N F v P (i+1) w')∧(z≠0→stW base p b N F v Q (i+1) w'):=by
 obtain ⟨σ',N',F',a1,a2,a3,a4,a5⟩:=hd
 have hT:Turn (zAS p b F) v w':=h3.trans a3 (fun k hk hs =>by rcases h4 k hs with h | h;exact h;omega)
 have hS:∀ k,zAS p b F' k→zAS p b F k∨v.heap.size≤k:=fun k hk =>by
  rcases a4 k hk with h | h
  ·exact h4 k h
  ·exact .inr (Nat.le_trans h3.2.2.2.1 h)
 rcases hs σ' a5 with ⟨h,hP⟩ | ⟨h,hQ⟩
 ·exact ⟨fun _ =>⟨σ',N',F',a1,by omega,hT,hS,hP⟩,fun h' =>absurd h h'⟩
 ·exact ⟨fun h' =>absurd h' h,fun _ =>⟨σ',N',F',a1,by omega,hT,hS,hQ⟩⟩
theorem zGe (p b N base:Nat) (σ:FsSt) (F:List UInt8→Option Value) (hN:N≤50000) (M:Nat) (hM:M≤50000000) (hsz:SzS M σ) (hf:zAX σ.f) (hg:zAX σ.g) (nm sd B:List UInt8) (hne:nm≠sd) (hnm:nm.length≤1000) (hsd:sd.length≤1000) (ver:Int) (A:Option Addr) (n c K:Nat) (hK:B.length=K) (hKM:K≤M) (w:World) (hbase:base≤w.heap.size) (hx:FsAt w base p b N σ F)
  (HP:Hid (∀ W,Below w.heap.size w W→Calls Tryz.prog 25 #[.int .i64 ver,.slice A n c] W fun e w' =>(∃ A1 c1,e=.returned (.tuple #[.slice A1 K c1,.int .i64 0])∧(A1=none→c1=0)∧w'.ownsRow W.heap.size 5 1 (.slice A1 K c1) K (B.map bv))∧Below W.heap.size W w')) :
  Calls Tryz.prog 12 #[.pointer (some ⟨p,0,none⟩),.string (tx nm),.string (tx sd),.int .i64 ver,.slice A n c] w fun e w' =>∃ z:Int,e=.returned (.int .i64 z)∧(z=0→stW base p b N F w (StY nm sd B M σ) 4 w')∧(z≠0→stW base p b N F w (StN sd M σ) 4 w'):=by
 have hbw:∀ k,zAS p b F k→k<w.heap.size:=zEN hx.2 hx.1
 have z1:(w.alloc (.cells #[.pointer (some ⟨p,0,none⟩)] 26)).heap.size=w.heap.size+1:=by simp
 have z2:((w.alloc (.cells #[.pointer (some ⟨p,0,none⟩)] 26)).alloc (.cells #[.string (tx nm)] 9)).heap.size=w.heap.size+1+1:=by simp
 have z3:(((w.alloc (.cells #[.pointer (some ⟨p,0,none⟩)] 26)).alloc (.cells #[.string (tx nm)] 9)).alloc (.cells #[.string (tx sd)] 9)).heap.size=w.heap.size+3:=by simp
 have HA1:Below w.heap.size w (w.alloc (.cells #[.pointer (some ⟨p,0,none⟩)] 26)):=(Below.refl _ _).alloc (Nat.le_refl _) _
 have HA2:Below w.heap.size w ((w.alloc (.cells #[.pointer (some ⟨p,0,none⟩)] 26)).alloc (.cells #[.string (tx nm)] 9)):=HA1.alloc HA1.size _
 have HA3:Below w.heap.size w (((w.alloc (.cells #[.pointer (some ⟨p,0,none⟩)] 26)).alloc (.cells #[.string (tx nm)] 9)).alloc (.cells #[.string (tx sd)] 9)):=HA2.alloc HA2.size _
 have h1:=zAD w (.cells #[.pointer (some ⟨p,0,none⟩)] 26)
 have h2:=zAD (w.alloc (.cells #[.pointer (some ⟨p,0,none⟩)] 26)) (.cells #[.string (tx nm)] 9)
 have h3:=zAD ((w.alloc (.cells #[.pointer (some ⟨p,0,none⟩)] 26)).alloc (.cells #[.string (tx nm)] 9)) (.cells #[.string (tx sd)] 9)
 rw [z1] at h2
 rw [z2] at h3
 have e2:=(Below.heap_alloc ((w.alloc (.cells #[.pointer (some ⟨p,0,none⟩)] 26)).alloc (.cells #[.string (tx nm)] 9)) (.cells #[.string (tx sd)] 9) (w.heap.size+1) (by rw [z2];omega)).trans h2
 have e1:=(Below.heap_alloc ((w.alloc (.cells #[.pointer (some ⟨p,0,none⟩)] 26)).alloc (.cells #[.string (tx nm)] 9)) (.cells #[.string (tx sd)] 9) w.heap.size (by rw [z2];omega)).trans ((Below.heap_alloc (w.alloc (.cells #[.pointer (some ⟨p,0,none⟩)] 26)) (.cells #[.string (tx nm)] 9) w.heap.size (by rw [z1];omega)).trans h1)
 have q1:=zAA (i:=0) e1 rfl
 obtain ⟨w1,hw1⟩:∃ x,x=(((w.alloc (.cells #[.pointer (some ⟨p,0,none⟩)] 26)).alloc (.cells #[.string (tx nm)] 9)).alloc (.cells #[.string (tx sd)] 9)):=⟨_,rfl⟩
 rw [← hw1] at HA3 h3 e1 e2 z3
 have HPUT:=yh (HP.out w1 HA3)
 have HB1:=yh HA3
 have HE1:=yh e1
 have HE2:=yh e2
 have HE3:=yh h3
 have HZ3:=yh z3
 have HW1:=yh hw1
 have HX:=yh hx
 have HBW:=yh hbw
 have HSZ:=yh hsz
 have HF:=yh hf
 have HG:=yh hg
 have HNE:=yh hne
 have hne2:((tx nm).toList == (tx sd).toList)=false:=by rw [beq_eq_false_iff_ne];exact fun e =>hne (by rwa [zBe,zBe] at e)
 have HK:=yh hK
 have HBASE:=yh hbase
 clear HA1 HA2 HA3 h1 h2 h3 e1 e2 z1 z2 z3 hw1 hx hbw hsz hf hg hne hK hbase
 go_enter Tryz.func12,Tryz.ntmps12
 go_wp2_with fail
 rw [← HW1.out]
 refine HPUT.out.mono ?_
 rintro e w4 ⟨⟨A1,c1,rfl,hA1,ho⟩,hb4⟩
 have hb45:=(Below.refl w4.heap.size w4).alloc (Nat.le_refl _) (.cells #[.slice A1 K c1] 31)
 have hx5:=zAD w4 (.cells #[.slice A1 K c1] 31)
 have f1:=(Below.heap_alloc w4 (.cells #[.slice A1 K c1] 31) w.heap.size (by have:=HB1.out.size;have:=hb4.size;have:=HZ3.out;omega)).trans ((hb4.block w.heap.size (by have:=HZ3.out;omega)).trans HE1.out)
 have f2:=(Below.heap_alloc w4 (.cells #[.slice A1 K c1] 31) (w.heap.size+1) (by have:=HB1.out.size;have:=hb4.size;have:=HZ3.out;omega)).trans ((hb4.block (w.heap.size+1) (by have:=HZ3.out;omega)).trans HE2.out)
 have f3:=(Below.heap_alloc w4 (.cells #[.slice A1 K c1] 31) (w.heap.size+1+1) (by have:=HB1.out.size;have:=hb4.size;have:=HZ3.out;omega)).trans ((hb4.block (w.heap.size+1+1) (by have:=HZ3.out;omega)).trans HE3.out)
 have q2:=zAA (i:=0) f2 rfl
 have q3:=zAA (i:=0) f3 rfl
 have z5:(w4.alloc (.cells #[.slice A1 K c1] 31)).heap.size=w4.heap.size+1:=by simp
 obtain ⟨w5,hw5⟩:∃ x,x=w4.alloc (.cells #[.slice A1 K c1] 31):=⟨_,rfl⟩
 rw [← hw5] at hb45 hx5 f1 f2 f3 z5
 have HB5:=yh ((HB1.out.trans (hb4.mono HB1.out.size)).trans (hb45.mono (HB1.out.trans (hb4.mono HB1.out.size)).size))
 have HSZ4:Hid (w.heap.size+3≤w4.heap.size):=by have:=HZ3.out;have:=hb4.size;show _≤_;omega
 have HO5:Hid (w5.ownsRow (w.heap.size+3) 5 1 (.slice A1 K c1) K (B.map bv)):=zAV (zAK ho hb45) (by have:=HZ3.out;omega)
 have HA1:=yh hA1
 have HX5:=yh hx5
 have HF1:=yh f1
 have HF2:=yh f2
 have HF3:=yh f3
 have HZ5:=yh z5
 have HW5:=yh hw5
 clear hb4 hb45 hx5 f1 f2 f3 z5 hw5 ho hA1
 go_wp2_with fail
 rw [← HW5.out]
 have hb56:=(Below.refl w5.heap.size w5).alloc (Nat.le_refl _) (.cells #[.func (.func 27) #[] #[.pointer (some ⟨w.heap.size,0,none⟩),.pointer (some ⟨w.heap.size+1+1,0,none⟩)],.func (.func 29) #[] #[.pointer (some ⟨w.heap.size,0,none⟩),.pointer (some ⟨w.heap.size+1+1,0,none⟩),.pointer (some ⟨w4.heap.size,0,none⟩)],.func (.func 30) #[] #[.pointer (some ⟨w.heap.size,0,none⟩),.pointer (some ⟨w.heap.size+1+1,0,none⟩)],.func (.func 31) #[] #[.pointer (some ⟨w.heap.size,0,none⟩),.pointer (some ⟨w.heap.size+1+1,0,none⟩),.pointer (some ⟨w.heap.size+1,0,none⟩)]] 67)
 have hx6:=zAD w5 (.cells #[.func (.func 27) #[] #[.pointer (some ⟨w.heap.size,0,none⟩),.pointer (some ⟨w.heap.size+1+1,0,none⟩)],.func (.func 29) #[] #[.pointer (some ⟨w.heap.size,0,none⟩),.pointer (some ⟨w.heap.size+1+1,0,none⟩),.pointer (some ⟨w4.heap.size,0,none⟩)],.func (.func 30) #[] #[.pointer (some ⟨w.heap.size,0,none⟩),.pointer (some ⟨w.heap.size+1+1,0,none⟩)],.func (.func 31) #[] #[.pointer (some ⟨w.heap.size,0,none⟩),.pointer (some ⟨w.heap.size+1+1,0,none⟩),.pointer (some ⟨w.heap.size+1,0,none⟩)]] 67)
 rw [HZ5.out] at hx6
 obtain ⟨w6,hw6⟩:∃ x,x=w5.alloc (.cells #[.func (.func 27) #[] #[.pointer (some ⟨w.heap.size,0,none⟩),.pointer (some ⟨w.heap.size+1+1,0,none⟩)],.func (.func 29) #[] #[.pointer (some ⟨w.heap.size,0,none⟩),.pointer (some ⟨w.heap.size+1+1,0,none⟩),.pointer (some ⟨w4.heap.size,0,none⟩)],.func (.func 30) #[] #[.pointer (some ⟨w.heap.size,0,none⟩),.pointer (some ⟨w.heap.size+1+1,0,none⟩)],.func (.func 31) #[] #[.pointer (some ⟨w.heap.size,0,none⟩),.pointer (some ⟨w.heap.size+1+1,0,none⟩),.pointer (some ⟨w.heap.size+1,0,none⟩)]] 67):=⟨_,rfl⟩
 rw [← hw6] at hb56 hx6 ⊢
 have HB6:=yh (HB5.out.trans (hb56.mono HB5.out.size))
 have HX6:=yh hx6
 have HO6:=yh (zAK HO5.out hb56)
 have HF1:=yh ((hb56.block _ (zAJ HF1.out)).trans HF1.out)
 have HF2:=yh ((hb56.block _ (zAJ HF2.out)).trans HF2.out)
 have HF3:=yh ((hb56.block _ (zAJ HF3.out)).trans HF3.out)
 have HX5:=yh ((hb56.block _ (zAJ HX5.out)).trans HX5.out)
 clear hb56 hx6 hw6
 -- what is kept behind acts
 have hkeep:∀ W,Turn (zAS p b F) w6 W→∀ k o,w.heap.size≤k→w6.heap[k]? = some o→W.heap[k]? = some o:=fun W hT k o hk ho =>(hT.2.2.2.2 k (zAJ ho) (fun hs =>by have:=HBW.out k hs;omega)).trans ho
 have hmain:=zOR 4 4 (by omega) ⟨w4.heap.size+1,0,none⟩
  (fun i =>match i with | 0 =>27 | 1 =>29 | 2 =>30 | _ =>31) (fun i =>match i with | 0 =>#[.pointer (some ⟨w.heap.size,0,none⟩),.pointer (some ⟨w.heap.size+1+1,0,none⟩)] | 1 =>#[.pointer (some ⟨w.heap.size,0,none⟩),.pointer (some ⟨w.heap.size+1+1,0,none⟩),.pointer (some ⟨w4.heap.size,0,none⟩)] | 2 =>#[.pointer (some ⟨w.heap.size,0,none⟩),.pointer (some ⟨w.heap.size+1+1,0,none⟩)] | _ =>#[.pointer (some ⟨w.heap.size,0,none⟩),.pointer (some ⟨w.heap.size+1+1,0,none⟩),.pointer (some ⟨w.heap.size+1,0,none⟩)])
  (fun i _ =>match i with
   | 0 =>enters_of Tryz.func27 (by kernel_rfl) rfl
   | 1 =>enters_of Tryz.func29 (by kernel_rfl) rfl
   | 2 =>enters_of Tryz.func30 (by kernel_rfl) rfl
   | _+3 =>enters_of Tryz.func31 (by kernel_rfl) rfl)
  (fun i W =>stW base p b N F w6 (stP nm sd B M σ i) i W) (fun _ W =>stW base p b N F w6 (StN sd M σ) 4 W)
  (fun i W hi ⟨σi,Ni,Fi,g1,g2,g3,g4,g5⟩ =>by
   have hrow:=hkeep W g3 _ _ (by have:=HSZ4.out;omega) HX6.out
   match i,hi with
   | 0,_ =>exact zAA (i:=0) hrow rfl
   | 1,_ =>exact zAA (i:=1) hrow rfl
   | 2,_ =>exact zAA (i:=2) hrow rfl
   | 3,_ =>exact zAA (i:=3) hrow rfl)
  (fun i W hi ⟨σi,Ni,Fi,g1,g2,g3,g4,g5⟩ =>by
   have k1:=hkeep W g3 _ _ (Nat.le_refl _) HF1.out
   have k2:=hkeep W g3 _ _ (Nat.le_add_right _ _) HF2.out
   have k3:=hkeep W g3 _ _ (Nat.le_add_right _ _) HF3.out
   have k4:=hkeep W g3 _ _ (by have:=HSZ4.out;omega) HX5.out
   have hbW:base≤W.heap.size:=Nat.le_trans HBASE.out (Nat.le_trans HB6.out.size g3.2.2.2.1)
   obtain ⟨g5a,hst⟩ | ⟨g5a,_⟩:=g5
   ·have hsm:=hst.sz.small (by omega:M≤100000000)
    match i,hi with
    | 0,_ =>
     refine clo1 _ _ p sd W k1 k3 _ ((zPc p b Ni base σi Fi (by omega) hst.hf hst.hg W g1 sd (Nat.le_trans hsd (by unfold maxLen;omega))).mono ?_)
     rintro e w' ⟨z,rfl,⟨hn,rfl,hb⟩ | ⟨hy,hd⟩⟩
     ·exact ⟨0,rfl,fun _ =>⟨σi,Ni,Fi,g1.below hb,by omega,g3.trans (Turn.of_below (S:=zAS p b F) hb) (fun _ _ h =>h),g4,.inl ⟨by omega,hst.none_ hn⟩⟩,fun h =>absurd rfl h⟩
     ·refine ⟨z,rfl,?_⟩
      have h:=zFm g2 g3 g4 hd (fun σ' ho =>zMZ hst hy ho)
      exact ⟨fun hz =>by obtain ⟨a,b',c',d1,d2,d3,d4,d5⟩:=h.1 hz;exact ⟨a,b',c',d1,d2,d3,d4,.inl ⟨by omega,d5⟩⟩,fun hz =>by obtain ⟨a,b',c',d1,d2,d3,d4,d5⟩:=h.2 hz;exact ⟨a,b',c',d1,by omega,d3,d4,d5⟩⟩
    | 1,_ =>
     have ho:W.ownsRow (w.heap.size+3) 5 1 (.slice A1 K c1) K (B.map bv):=zAP HO6.out (fun g hg =>g3.2.2.2.2 g (zAO HO6.out g hg) (fun hs =>by have:=HBW.out g hs;have:=zAG HO6.out g hg;omega))
     refine clo2 _ _ _ p sd A1 K c1 W k1 k3 k4 _ ((zJY p b Ni base σi Fi (by omega) hsm hst.hf hst.hg W hbW g1 sd (Nat.le_trans hsd (by unfold maxLen;omega)) W.heap.size (Nat.le_refl _) A1 K c1 B HA1.out (by omega) (zAE.of_own ho)).mono ?_)
     rintro e w' ⟨z,rfl,hd⟩
     refine ⟨z,rfl,?_⟩
     have h:=zFm g2 g3 g4 hd (fun σ' ho =>zMY hst (by have:=HK.out;omega) hsd ho)
     exact ⟨fun hz =>by obtain ⟨a,b',c',d1,d2,d3,d4,d5⟩:=h.1 hz;exact ⟨a,b',c',d1,d2,d3,d4,.inl ⟨by omega,d5⟩⟩,fun hz =>by obtain ⟨a,b',c',d1,d2,d3,d4,d5⟩:=h.2 hz;exact ⟨a,b',c',d1,by omega,d3,d4,d5⟩⟩
    | 2,_ =>
     refine clo3 _ _ p sd W k1 k3 _ ((zIr p b Ni base σi Fi (by omega) hst.hf hst.hg W g1 sd (Nat.le_trans hsd (by unfold maxLen;omega))).mono ?_)
     rintro e w' ⟨z,rfl,hd⟩
     refine ⟨z,rfl,?_⟩
     have h:=zFm g2 g3 g4 hd (fun σ' ho =>zPk hst (by have:=HK.out;omega) hsd ho)
     exact ⟨fun hz =>by obtain ⟨a,b',c',d1,d2,d3,d4,d5⟩:=h.1 hz;exact ⟨a,b',c',d1,d2,d3,d4,.inl ⟨by omega,d5⟩⟩,fun hz =>by obtain ⟨a,b',c',d1,d2,d3,d4,d5⟩:=h.2 hz;exact ⟨a,b',c',d1,by omega,d3,d4,d5⟩⟩
    | 3,_ =>
     refine clo4 _ _ _ p sd nm W k1 k3 k2 _ ((zKs p b Ni base σi Fi (by omega) hst.hf hst.hg W g1 sd (Nat.le_trans hsd (by unfold maxLen;omega)) nm (Nat.le_trans hnm (by unfold maxLen;omega))).mono ?_)
     rintro e w' ⟨z,rfl,hd⟩
     refine ⟨z,rfl,?_⟩
     have h:=zFm g2 g3 g4 hd (fun σ' ho =>zMa HNE.out hnm hst (by have:=HK.out;omega) ho)
     exact ⟨fun hz =>by obtain ⟨a,b',c',d1,d2,d3,d4,d5⟩:=h.1 hz;exact ⟨a,b',c',d1,d2,d3,d4,.inr ⟨rfl,d5⟩⟩,fun hz =>by obtain ⟨a,b',c',d1,d2,d3,d4,d5⟩:=h.2 hz;exact ⟨a,b',c',d1,by omega,d3,d4,d5⟩⟩
   ·omega)
  w6 ⟨σ,N,F,HX.out.below HB6.out,by omega,Turn.refl _ _,fun k hk =>.inl hk,.inl ⟨by omega,StK.start HF.out HG.out HSZ.out⟩⟩
 refine hmain.mono ?_
 rintro e w7 ⟨z,rfl,hy,hn⟩
 have HY:=yh hy
 have HN:=yh hn
 clear hmain hy hn hkeep
 go_wp2
 go_ret
 refine ⟨z,rfl,fun hz =>?_,fun hz =>?_⟩
 ·obtain ⟨σi,Ni,Fi,g1,g2,g3,g4,g5⟩:=HY.out hz
  rcases g5 with ⟨h,_⟩ | ⟨_,h⟩
  ·omega
  ·exact ⟨σi,Ni,Fi,g1,g2,(Turn.of_below HB6.out).trans g3 (fun _ _ h =>h),fun k hk =>(g4 k hk).imp id (fun h =>Nat.le_trans HB6.out.size h),h⟩
 ·obtain ⟨σi,Ni,Fi,g1,g2,g3,g4,g5⟩:=HN.out hz
  exact ⟨σi,Ni,Fi,g1,g2,(Turn.of_below HB6.out).trans g3 (fun _ _ h =>h),fun k hk =>(g4 k hk).imp id (fun h =>Nat.le_trans HB6.out.size h),g5⟩
structure zAo (w:World) (base m:Nat) (va ve:Value) (zs:List Rw) (es:List Value):Prop where
 recs:w.ownsRow base 46 7 va m (rws zs)
 deps:∀ z ∈ zs,w.ownsRow base 77 3 (.slice z.A z.n z.c) z.n (dps z.l)
 ends:w.ownsRow base 3 1 ve m es
theorem zAo.below {w w':World} {base m:Nat} {va ve:Value} {zs:List Rw} {es:List Value} (h:zAo w base m va ve zs es) (hb:Below w.heap.size w w'):zAo w' base m va ve zs es :=
 ⟨zAK h.recs hb,fun z hz =>zAK (h.deps z hz) hb,zAK h.ends hb⟩
theorem zAo.less {w:World} {base base' m:Nat} {va ve:Value} {zs:List Rw} {es:List Value} (h:zAo w base m va ve zs es) (hb:base'≤base):zAo w base' m va ve zs es :=
 ⟨zAV h.recs hb,fun z hz =>zAV (h.deps z hz) hb,zAV h.ends hb⟩
theorem zAo.kept {w w':World} {base m g:Nat} {va ve:Value} {zs:List Rw} {es:List Value} (h:zAo w base m va ve zs es) (hg:w.grownBy w' (some g)) (hn:g<base):zAo w' base m va ve zs es:=by
 have h1:∀ {e:TypeId} {size n:Nat} {v:Value} {xs:List Value},w.ownsRow base e size v n xs→w'.ownsRow base e size v n xs:=fun ho =>zAP ho (fun k hk =>hg.block k (zAO ho k hk) (fun e =>by have:=zAG ho k hk;have:=Option.some.inj e;omega))
 exact ⟨h1 h.recs,fun z hz =>h1 (h.deps z hz),h1 h.ends⟩
theorem zAo.turn {w w':World} {base m:Nat} {S:Nat→Prop} {va ve:Value} {zs:List Rw} {es:List Value} (h:zAo w base m va ve zs es) (ht:Turn S w w') (hn:∀ k,S k→k<base):zAo w' base m va ve zs es:=by
 have h1:∀ {e:TypeId} {size n:Nat} {v:Value} {xs:List Value},w.ownsRow base e size v n xs→w'.ownsRow base e size v n xs:=fun ho =>zAP ho (fun k hk =>ht.2.2.2.2 k (zAO ho k hk) (fun hs =>by have:=zAG ho k hk;have:=hn k hs;omega))
 exact ⟨h1 h.recs,fun z hz =>h1 (h.deps z hz),h1 h.ends⟩
theorem zAo.read {w:World} {base m c d:Nat} {A E:Option Addr} {zs:List Rw} {es:List Value} (h:zAo w base m (.slice A m c) (.slice E m d) zs es):Recs w w.heap.size A m zs∧zAE w w.heap.size 1 E m es:=by
 refine ⟨⟨zAE.of_own h.recs,fun z hz =>⟨zAE.of_own (h.deps z hz),fun e =>?_⟩⟩,zAE.of_own h.ends⟩
 obtain ⟨A',c',e2,h3⟩:=zAM (h.deps z hz)
 simp only [Value.slice.injEq] at e2
 rw [e2.2.2]
 exact h3 (e2.1▸e)
def zBr (ver:Int) (xs:List Rw) (m:Nat):List Value:=(List.range m).map fun i =>inv (eo ver xs (i+1))
def zDj (v:Nat) (xs:List Rw) (m:Nat) (W:World) (e:Ending) (w':World):Prop :=
 (∃ A3 E3 c3 d3 zs,e=.returned (.tuple #[.agg #[.int .i64 (v:Int),.slice A3 m c3,.slice E3 m d3,.int .i64 (eo (v:Int) xs m:Int)],.int .i64 0])∧zs.map Rw.say=(xs.take m).map Rw.say∧(∀ z ∈ zs,z.n≤1000000)∧zAo w' W.heap.size m (.slice A3 m c3) (.slice E3 m d3) zs (zBr (v:Int) xs m))∧Below W.heap.size W w'
theorem zNQ (v:Nat) (xs:List Rw) (hm:zAj (v:Int) xs) (hf:∀ x ∈ xs,Fits x.r x.l) (hl60:∀ x ∈ xs,x.l.length≤1000000) (h30:xs.length≤30) (m j:Nat) (hmn:m≤xs.length) (hj:(zAI (v:Int) [] (xs.take m)).length≤j) (hj2:m<xs.length→j<(zAI (v:Int) [] (xs.take (m+1))).length)
  (bs:List UInt8) (K:Nat) (hvg:vg bs=(v,0)) (hfr:frun (K+1) 8 bs=told 8 ((zAI (v:Int) [] xs).take j)) (A1:Option Addr) (c1:Nat) (hc1:K≤c1) (hK:K≤1073741824) (W:World) (hl:Laid W) (hr:zAE W W.heap.size 1 A1 K (bs.map bv)) :
  Calls Tryz.prog 35 #[.slice A1 K c1] W (zDj v xs m W):=by
 obtain ⟨f1,f2,f3,f4⟩:=zCL hm h30
 have hpl:((zAI (v:Int) [] xs).take j).length≤1000:=by rw [List.length_take];omega
 obtain ⟨ys,hys⟩:=zLE (v:Int) ((zAI (v:Int) [] xs).take j) hpl (fun s hs =>by have:=(f4 s (List.mem_of_mem_take hs)).2;omega)
 obtain ⟨r1,r2,r3,r4⟩:=zNw hm hf h30 j m hmn hj hj2 hys
 have r5:=zNU hmn hj r1 r3
 have r6:=zNG hmn hj r1 r4
 obtain ⟨e9,he9,hst⟩:=hys.stop
 refine (zOv A1 K c1 bs hc1 hK v hvg (told 8 ((zAI (v:Int) [] xs).take j)) hfr.symm (by rw [zOO];exact hpl) ((zAI (v:Int) [] xs).take j) (zIu _ 8).symm ys (by omega) (fun i x hx =>⟨(hys.chn i x hx).lt,(hys.chn i x hx).le,(hys.chn i x hx).up⟩) e9 (by omega) hst W hl hr).mono ?_
 rintro e w1 ⟨⟨A3,E3,c3,d3,zs,rfl,hri⟩,hb1⟩
 have q1:=hri.recs
 have q2:=hri.ends
 have hsay:zs.map Rw.say=(xs.take m).map Rw.say:=by rw [hri.say,r2]
 have q3:=zQV hri (fun x hx =>by
  have h2:sayR x ∈ (xs.take m).map Rw.say:=by rw [← r2];exact List.mem_map_of_mem hx
  obtain ⟨z,hz,e⟩:=List.mem_map.1 h2
  have h4:z.l=x.2.1:=congrArg Prod.snd e
  rw [← h4]
  exact hl60 z (List.mem_of_mem_take hz))
 rw [r6] at q2
 rw [r1] at q1 q2 ⊢
 rw [r5]
 exact ⟨⟨A3,E3,c3,d3,zs,rfl,hsay,q3,q1,hri.deps,q2⟩,hb1⟩
theorem zJi (v:Nat) (hv:1≤v∧v≤3) (xs:List Rw) (hm:zAj (v:Int) xs) (hf:∀ x ∈ xs,Fits x.r x.l) (hl60:∀ x ∈ xs,x.l.length≤1000000) (h30:xs.length≤30) (k:Nat) (h8:8≤k) (hk:k≤(zAT v (v:Int) xs).length) :
  ∃ m,m≤xs.length∧(∀ i,i≤xs.length→(eo (v:Int) xs i≤k ↔ i≤m))∧∀ (A1:Option Addr) (c1:Nat) (W:World),k≤c1→Laid W→zAE W W.heap.size 1 A1 k (((zAT v (v:Int) xs).take k).map bv)→Calls Tryz.prog 35 #[.slice A1 k c1] W (zDj v xs m W):=by
 obtain ⟨m,j,m1,m2,m3,m4,m5⟩:=zQC v (v:Int) xs hm h30 k h8 hk
 obtain ⟨f1,f2,f3,f4⟩:=zCL hm h30
 have hN:(zAT v (v:Int) xs).length=8+(frs (zAI (v:Int) [] xs)).length:=by unfold zAT;rw [List.length_append,zBW]
 refine ⟨m,m1,m2,fun A1 c1 W hc1 hl hr =>?_⟩
 exact zNQ v xs hm hf hl60 h30 m j m1 m4 m5 _ k (zQd hv xs k h8) m3 A1 c1 hc1 (by omega) W hl hr
theorem zLi (v:Nat) (hv:1≤v∧v≤3) (xs:List Rw) (hm:zAj (v:Int) xs) (hf:∀ x ∈ xs,Fits x.r x.l) (hl60:∀ x ∈ xs,x.l.length≤1000000) (h30:xs.length≤30) (A1:Option Addr) (c1:Nat) (W:World) (hc1:(zAT v (v:Int) xs).length≤c1) (hl:Laid W) (hr:zAE W W.heap.size 1 A1 (zAT v (v:Int) xs).length ((zAT v (v:Int) xs).map bv)) :
  Calls Tryz.prog 35 #[.slice A1 (zAT v (v:Int) xs).length c1] W (zDj v xs xs.length W):=by
 have hN:(zAT v (v:Int) xs).length=8+(frs (zAI (v:Int) [] xs)).length:=by unfold zAT;rw [List.length_append,zBW]
 obtain ⟨m,m1,m2,m3⟩:=zJi v hv xs hm hf hl60 h30 _ (by omega) (Nat.le_refl _)
 obtain rfl:m=xs.length:=by have:=(m2 xs.length (Nat.le_refl _)).1 (by rw [zBp];exact Nat.le_refl _);omega
 exact m3 A1 c1 W hc1 hl (by rw [List.take_length];exact hr)
theorem zFs (p b N base:Nat) (σ:FsSt) (F:List UInt8→Option Value) (nm:List UInt8) (hnm:nm.length≤maxLen) (v n:Nat) (hv:1≤v∧v≤3) (xs:List Rw) (hnx:xs.length=n) (hm:zAj (v:Int) xs) (hf:∀ x ∈ xs,Fits x.r x.l) (hl60:∀ x ∈ xs,x.l.length≤1000000) (h30:xs.length≤30) (s:Nat) (hfl:σ.fl nm=some ⟨zAT v (v:Int) xs,s⟩) (w:World) (hl:Laid w) (hx:FsAt w base p b N σ F) :
  Calls Tryz.prog 14 #[.pointer (some ⟨p,0,none⟩),.string (tx nm)] w (zDj v xs n w):=by
 obtain ⟨f1,f2,f3,f4⟩:=zCL hm h30
 have hN:(zAT v (v:Int) xs).length=8+(frs (zAI (v:Int) [] xs)).length:=by unfold zAT;rw [List.length_append,zBW]
 have heo:eo (v:Int) xs n=(zAT v (v:Int) xs).length:=by rw [zBp,hnx]
 have hGET:∀ W,Below w.heap.size w W→∀ A1 c1,(zAT v (v:Int) xs).length≤c1→zAE W W.heap.size 1 A1 (zAT v (v:Int) xs).length ((zAT v (v:Int) xs).map bv)→Calls Tryz.prog 35 #[.slice A1 (zAT v (v:Int) xs).length c1] W (zDj v xs n W):=fun W hb A1 c1 hc1 hr1 =>by
  rw [← hnx]
  exact zLi v hv xs hm hf hl60 h30 A1 c1 W hc1 (hl.below hb) hr1
 have hb0:=(Below.refl w.heap.size w).alloc (Nat.le_refl _) (.cells #[.int .i64 0,.slice none 0 0,.slice none 0 0,.int .i64 0] 37)
 have hx0:=zAD w (.cells #[.int .i64 0,.slice none 0 0,.slice none 0 0,.int .i64 0] 37)
 obtain ⟨hxb,hxf⟩:=hx.below hb0
 have hRD:=zFQ p b N base σ.down σ.f σ.g σ.fl F nm hnm ⟨zAT v (v:Int) xs,s⟩ hfl (by show (zAT v (v:Int) xs).length≤_;omega) (w.alloc (.cells #[.int .i64 0,.slice none 0 0,.slice none 0 0,.int .i64 0] 37)) hxb hxf
 simp only at hRD
 obtain ⟨B,hB⟩:∃ B,B=zAT v (v:Int) xs:=⟨_,rfl⟩
 rw [← hB] at hRD hGET heo hN
 obtain ⟨K,hK⟩:∃ K,K=B.length:=⟨_,rfl⟩
 rw [← hK] at hRD hGET heo hN
 have HRD:=yh hRD
 have HGET:=yh hGET
 have HEO:=yh heo
 have HB0:=yh hb0
 have HX0:=yh hx0
 clear hRD hGET heo hN hb0 hx0 hxb hxf hB hK f1 f2 f3 f4 hl hx hm hf hl60 h30 hfl hnx
 go_enter Tryz.func14,Tryz.ntmps14
 go_wp2_with fail
 refine HRD.out.mono ?_
 rintro e w2 ⟨⟨A',c',rfl,_,ho⟩,hb2⟩
 obtain ⟨_,_,he,hc,hr⟩:=zBL ho
 cases he
 have HB2:=yh (HB0.out.trans (hb2.mono HB0.out.size))
 have HX2:=yh ((hb2.block w.heap.size (Array.getElem?_eq_some_iff.1 HX0.out).1).trans HX0.out)
 have HR:=yh hr
 have HC:=yh hc
 clear ho hb2 hr hc
 go_wp2_with fail
 refine (HGET.out _ HB2.out A' c' HC.out HR.out).mono ?_
 rintro e w3 ⟨⟨A3,E3,c3,d3,zs,rfl,hsay,hzn,hro⟩,hb3⟩
 rw [HEO.out]
 have HB3:=yh (HB2.out.trans (hb3.mono HB2.out.size))
 have hx3:=(hb3.block w.heap.size (Array.getElem?_eq_some_iff.1 HX2.out).1).trans HX2.out
 have hb34:=(Below.refl w3.heap.size w3).alloc (Nat.le_refl _) (.cells #[.int .i64 (v:Int),.slice A3 n c3,.slice E3 n d3,.int .i64 (K:Int)] 37)
 have hxf:=zAD w3 (.cells #[.int .i64 (v:Int),.slice A3 n c3,.slice E3 n d3,.int .i64 (K:Int)] 37)
 have hx4:=(hb34.block w.heap.size (Array.getElem?_eq_some_iff.1 hx3).1).trans hx3
 have HB4:=yh (HB3.out.trans (hb34.mono HB3.out.size))
 have HRO:=yh (hro.below hb34)
 have HLT:Hid (w.heap.size<w2.heap.size):=(Array.getElem?_eq_some_iff.1 HX2.out).1
 have HX4:=yh hx4
 have HSAY:=yh hsay
 have HZN:=yh hzn
 have q0:=zAA (i:=0) hxf rfl;have q1:=zAA (i:=1) hxf rfl;have q2:=zAA (i:=2) hxf rfl;have q3:=zAA (i:=3) hxf rfl
 have r0:=zAA (i:=0) hx4 rfl;have r1:=zAA (i:=1) hx4 rfl;have r2:=zAA (i:=2) hx4 rfl;have r3:=zAA (i:=3) hx4 rfl
 have y0:=zAC (i:=0) hx4;have y1:=zAC (i:=1) hx4;have y2:=zAC (i:=2) hx4;have y3:=zAC (i:=3) hx4
 clear hb3 hx3 hb34 hxf hx4 hro hsay hzn
 go_wp2
 have g0:=zBb (W:=w3.alloc (.cells #[.int .i64 (v:Int),.slice A3 n c3,.slice E3 n d3,.int .i64 (K:Int)] 37)) (b:=w.heap.size) (.int .i64 (v:Int)) (.slice A3 n c3) (.slice E3 n d3) (.int .i64 (K:Int))
 have hx5:=zAF (zAF (zAF (zAF HX4.out 0 (.int .i64 (v:Int))) 1 (.slice A3 n c3)) 2 (.slice E3 n d3)) 3 (.int .i64 (K:Int))
 refine bodyPost_ret (zBn Tryz.results14 _ _ w.heap.size _ _ (0,0) _ rfl hx5 Tryz.underlying37 rfl (by kernel_rfl)) rfl ?_
 refine ⟨⟨A3,E3,c3,d3,zs,by rw [HEO.out];rfl,HSAY.out,HZN.out,(HRO.out.kept g0 HLT.out).less (Nat.le_of_lt HLT.out)⟩,?_⟩
 exact HB4.out.grown g0 HB4.out.size (fun k e =>by cases e;exact Nat.le_refl _)
structure Good (σ:FsSt) (i:Nat):Prop where
 few:∃ L:List (List UInt8),L.length≤i∧∀ u,(σ.fl u).isSome=true→u ∈ L
 each:∀ u y,σ.fl u=some y→y.body.length≤300 * i∧y.safe≤y.body.length∧u.length≤100
 hf:zAX σ.f
 hg:zAX σ.g
theorem Good.more {σ:FsSt} {i:Nat} (h:Good σ i):Good σ (i+1):=by
 obtain ⟨L,hl,hm⟩:=h.few
 exact ⟨⟨L,by omega,hm⟩,fun u y hu =>by have:=h.each u y hu;omega,h.hf,h.hg⟩
theorem zMu {n:Int} (h:n≤9223372036854775807):zAX (zDY n):=by
 unfold zAX zDY
 simp
 omega
theorem zFF:∀ (ns:List (List UInt8)) (st:(List UInt8→Option Fl)×List Int) (u:List UInt8),((crN ns st).1 u).isSome=(st.1 u).isSome
 | [],_,_ =>rfl
 | s :: ns,st,u =>by
  show ((match st.1 s with | none =>crN ns st | some x =>crN ns (zAZ st.1 s (some (zBx x st.2).1),(zBx x st.2).2)).1 u).isSome=_
  cases e:st.1 s with
  | none =>exact zFF ns st u
  | some x =>
   rw [zFF ns _ u]
   unfold zAZ
   simp only
   by_cases hu:u=s
   ·subst hu;rw [if_pos rfl,e];rfl
   ·rw [if_neg hu]
theorem zJK {fl:List UInt8→Option Fl} {ns:List (List UInt8)} (h:zDB fl ns):ns.Nodup:=h.1.imp fun {a b} hab e =>by rw [e] at hab;exact List.lt_irrefl b hab
theorem zGP {fl:List UInt8→Option Fl} {ns:List (List UInt8)} {ks:List Int} (hn:zDB fl ns) (hs:∀ u y,fl u=some y→y.safe≤y.body.length) (u:List UInt8) :
  (fl u=none∧(crN ns (fl,ks)).1 u=none) ∨ ∃ y m,fl u=some y∧y.safe≤m∧m≤y.body.length∧(crN ns (fl,ks)).1 u=some ⟨y.body.take m,m⟩:=by
 cases e:fl u with
 | none =>
  left
  refine ⟨rfl,?_⟩
  have:((crN ns (fl,ks)).1 u).isSome=(fl u).isSome:=zFF ns (fl,ks) u
  rw [e] at this
  cases e2:(crN ns (fl,ks)).1 u with
  | none =>rfl
  | some x =>rw [e2] at this;cases this
 | some y =>
  right
  obtain ⟨m,h1,h2,h3⟩:=zFy ns (fl,ks) (zJK hn) u ((hn.2 u).2 (by rw [e];rfl)) y e (hs u y e)
  exact ⟨y,m,rfl,h1,h2,h3⟩
theorem zKR {m:Nat} {σ:FsSt} {ns:List (List UInt8)} {ks:List Int} (hs:SzS m σ) (hn:zDB σ.fl ns) {u B:List UInt8} {s:Nat} (h:σ.fl u=some ⟨B,s⟩):∃ q,s≤q∧q≤B.length∧(crN ns (σ.fl,ks)).1 u=some ⟨B.take q,q⟩:=by
 rcases zGP (ks:=ks) hn (fun v y hv =>(hs v y hv).2.1) u with ⟨h1,_⟩ | ⟨y,q,h1,h2,h3,h4⟩
 ·rw [h] at h1;cases h1
 ·rw [h] at h1
  obtain rfl:=Option.some.inj h1
  exact ⟨q,h2,h3,h4⟩
theorem zNA {m:Nat} {σ:FsSt} {ns:List (List UInt8)} {ks:List Int} (hs:SzS m σ) (hn:zDB σ.fl ns):SzS m ⟨(crN ns (σ.fl,ks)).1,false,(false,0),(false,0)⟩:=by
 intro u y hu
 rcases zGP (ks:=ks) hn (fun v y hv =>(hs v y hv).2.1) u with ⟨_,h1⟩ | ⟨y2,q,h1,h2,h3,h4⟩
 ·rw [show (⟨(crN ns (σ.fl,ks)).1,false,(false,0),(false,0)⟩:FsSt).fl u=(crN ns (σ.fl,ks)).1 u from rfl,h1] at hu
  cases hu
 ·rw [show (⟨(crN ns (σ.fl,ks)).1,false,(false,0),(false,0)⟩:FsSt).fl u=(crN ns (σ.fl,ks)).1 u from rfl,h4] at hu
  obtain rfl:=Option.some.inj hu
  have h5:=hs u y2 h1
  refine ⟨?_,?_,h5.2.2⟩
  ·show (y2.body.take q).length≤m
   rw [List.length_take];omega
  ·show q≤(y2.body.take q).length
   rw [List.length_take];omega
theorem SzS.nil (m:Nat):SzS m ⟨fun _ =>none,false,(false,0),(false,0)⟩:=fun _ _ h =>by cases h
theorem zFf:zAX (false,0):=by unfold zAX;simp
end Go.Proofs.YtfbgmehicmpdiaaGreatDoor
