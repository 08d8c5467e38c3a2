/- Texts of one proof. -/
import Derived.Test.YtekchkfjgofnkaaGreatDoorMy29
import Derived.Test.YtekchkfjgofnkaaGreatDoorMy36
set_option maxRecDepth 100000
set_option maxHeartbeats 8000000
namespace Go.Proofs.YtekchkfjgofnkaaGreatDoor
open Go.RowKit
theorem zLh {base p b N:Nat} {σ:FsSt} {F:List UInt8→Option Value} {a:Ac} {w w1 w':World} {c:Int} (h1:Below w.heap.size w w1) (h:DidA base p b N σ F a w1 c w'):DidA base p b N σ F a w c w':=by
 obtain ⟨σ',N',F',a1,a2,a3,a4,a5⟩:=h
 exact ⟨σ',N',F',a1,a2,(Turn.of_below h1).trans a3 (fun _ _ h =>h),fun k hk =>(a4 k hk).imp id (fun h =>Nat.le_trans h1.size h),a5⟩
theorem zRX (p b N base:Nat) (σ:FsSt) (F:List UInt8→Option Value) (hN:N≤100000) (hf:zAN σ.f) (hg:zAN σ.g) (w:World) (hx:FsAt w base p b N σ F) (sd:List UInt8) (hsd:sd.length≤maxLen) :
  Calls Tryz.prog 71 #[.pointer (some ⟨p,0,none⟩),.string (tx sd)] w fun e w' =>∃ z:Int,e=.returned (.int .i64 z)∧((σ.fl sd=none∧z=0∧Below w.heap.size w w')∨((σ.fl sd).isSome=true∧DidA base p b N σ F ⟨4,sd,[],[],0,[]⟩ w z w')):=by
 have HNM:=yh (zHg p b N base σ.down σ.f σ.g σ.fl F (by omega) w hx.1 hx.2)
 have HX:=yh hx
 have HARG:Hid (∀ w1,Below w.heap.size w w1→Calls Tryz.prog 45 #[.pointer (some ⟨p,0,none⟩),.string (tx sd)] w1 fun e w' =>∃ e0,e=.returned (.int .i64 e0)∧DidA base p b N σ F ⟨4,sd,[],[],0,[]⟩ w e0 w'):=fun w1 hb =>(zHX p b N base σ F hf hg w1 (hx.below hb) sd hsd).mono fun e w' ⟨e0,h1,h2⟩ =>⟨e0,h1,zLh hb h2⟩
 clear hx hf hg hsd
 go_enter Tryz.func71,Tryz.ntmps71
 go_wp2_with fail
 refine HNM.out.mono ?_
 rintro e w1 ⟨⟨A,c,ns,hns,hnl,rfl,_,ho⟩,hb1⟩
 obtain ⟨_,_,he,_,hr⟩:=zBF ho
 cases he
 have HC:=yh (zDD A ns.length c ns sd (by omega) w1 hr)
 have HNS:=yh hns
 have HB1:=yh hb1
 obtain ⟨m,hm⟩:∃ m,m=ns.length:=⟨_,rfl⟩
 rw [← hm] at HC ⊢
 clear hns hnl ho hb1 hr hm
 go_wp2_with fail
 refine HC.out.mono ?_
 rintro e w2 ⟨⟨q,rfl,hq⟩,rfl⟩
 cases q with
 | true =>
  have HIN:Hid (sd ∈ ns):=hq.1 rfl
  clear hq
  go_wp2_with fail
  refine (HARG.out _ HB1.out).mono ?_
  rintro e w3 ⟨e0,rfl,hd⟩
  have HD:=yh hd
  clear hd
  go_wp2
  go_ret
  exact ⟨e0,rfl,.inr ⟨(HNS.out.2 sd).1 HIN.out,HD.out⟩⟩
 | false =>
  have HIN:Hid (sd ∉ ns):=fun h =>by have:=hq.2 h;cases this
  clear hq
  go_wp2
  go_ret
  refine ⟨0,rfl,.inl ⟨?_,rfl,HB1.out⟩⟩
  cases e2:σ.fl sd with
  | none =>rfl
  | some y =>exact absurd ((HNS.out.2 sd).2 (by rw [e2];rfl)) HIN.out
theorem clo1 (b0 b1 p:Nat) (sd:List UInt8) (w:World) (h0:w.heap[b0]? = some (.cells #[.pointer (some ⟨p,0,none⟩)] 27)) (h1:w.heap[b1]? = some (.cells #[.string (tx sd)] 9)) (X:Int→World→Prop)
  (hc:Calls Tryz.prog 71 #[.pointer (some ⟨p,0,none⟩),.string (tx sd)] w fun e w' =>∃ z:Int,e=.returned (.int .i64 z)∧X z w') :
  Calls Tryz.prog 70 #[.pointer (some ⟨b0,0,none⟩),.pointer (some ⟨b1,0,none⟩)] w fun e w' =>∃ z:Int,e=.returned (.int .i64 z)∧X z w':=by
 have q0:=zAA (i:=0) h0 rfl
 have q1:=zAA (i:=0) h1 rfl
 have HC:=yh hc
 clear h0 h1 hc
 go_enter Tryz.func70,Tryz.ntmps70
 go_wp2_with fail
 refine HC.out.mono ?_
 rintro e w1 ⟨z,rfl,hX⟩
 have HX:=yh hX
 clear hX
 go_wp2
 go_ret
 exact ⟨z,rfl,HX.out⟩
theorem clo2 (b0 b1 b2 p:Nat) (sd:List UInt8) (A:Option Addr) (k c:Nat) (w:World) (h0:w.heap[b0]? = some (.cells #[.pointer (some ⟨p,0,none⟩)] 27)) (h1:w.heap[b1]? = some (.cells #[.string (tx sd)] 9)) (h2:w.heap[b2]? = some (.cells #[.slice A k c] 59)) (X:Int→World→Prop)
  (hc:Calls Tryz.prog 73 #[.pointer (some ⟨p,0,none⟩),.string (tx sd),.slice A k c] w fun e w' =>∃ z:Int,e=.returned (.int .i64 z)∧X z w') :
  Calls Tryz.prog 72 #[.pointer (some ⟨b0,0,none⟩),.pointer (some ⟨b1,0,none⟩),.pointer (some ⟨b2,0,none⟩)] w fun e w' =>∃ z:Int,e=.returned (.int .i64 z)∧X z w':=by
 have q0:=zAA (i:=0) h0 rfl
 have q1:=zAA (i:=0) h1 rfl
 have q2:=zAA (i:=0) h2 rfl
 have HC:=yh hc
 clear h0 h1 h2 hc
 go_enter Tryz.func72,Tryz.ntmps72
 go_wp2_with fail
 refine HC.out.mono ?_
 rintro e w1 ⟨z,rfl,hX⟩
 have HX:=yh hX
 clear hX
 go_wp2
 go_ret
 exact ⟨z,rfl,HX.out⟩
theorem clo3 (b0 b1 p:Nat) (sd:List UInt8) (w:World) (h0:w.heap[b0]? = some (.cells #[.pointer (some ⟨p,0,none⟩)] 27)) (h1:w.heap[b1]? = some (.cells #[.string (tx sd)] 9)) (X:Int→World→Prop)
  (hc:Calls Tryz.prog 52 #[.pointer (some ⟨p,0,none⟩),.string (tx sd)] w fun e w' =>∃ z:Int,e=.returned (.int .i64 z)∧X z w') :
  Calls Tryz.prog 74 #[.pointer (some ⟨b0,0,none⟩),.pointer (some ⟨b1,0,none⟩)] w fun e w' =>∃ z:Int,e=.returned (.int .i64 z)∧X z w':=by
 have q0:=zAA (i:=0) h0 rfl
 have q1:=zAA (i:=0) h1 rfl
 have HC:=yh hc
 clear h0 h1 hc
 go_enter Tryz.func74,Tryz.ntmps74
 go_wp2_with fail
 refine HC.out.mono ?_
 rintro e w1 ⟨z,rfl,hX⟩
 have HX:=yh hX
 clear hX
 go_wp2
 go_ret
 exact ⟨z,rfl,HX.out⟩
theorem clo4 (b0 b1 b2 p:Nat) (sd nm:List UInt8) (w:World) (h0:w.heap[b0]? = some (.cells #[.pointer (some ⟨p,0,none⟩)] 27)) (h1:w.heap[b1]? = some (.cells #[.string (tx sd)] 9)) (h2:w.heap[b2]? = some (.cells #[.string (tx nm)] 9)) (X:Int→World→Prop)
  (hc:Calls Tryz.prog 76 #[.pointer (some ⟨p,0,none⟩),.string (tx sd),.string (tx nm)] w fun e w' =>∃ z:Int,e=.returned (.int .i64 z)∧X z w') :
  Calls Tryz.prog 75 #[.pointer (some ⟨b0,0,none⟩),.pointer (some ⟨b1,0,none⟩),.pointer (some ⟨b2,0,none⟩)] w fun e w' =>∃ z:Int,e=.returned (.int .i64 z)∧X z w':=by
 have q0:=zAA (i:=0) h0 rfl
 have q1:=zAA (i:=0) h1 rfl
 have q2:=zAA (i:=0) h2 rfl
 have HC:=yh hc
 clear h0 h1 h2 hc
 go_enter Tryz.func75,Tryz.ntmps75
 go_wp2_with fail
 refine HC.out.mono ?_
 rintro e w1 ⟨z,rfl,hX⟩
 have HX:=yh hX
 clear hX
 go_wp2
 go_ret
 exact ⟨z,rfl,HX.out⟩
def stW (base p b N:Nat) (F:List UInt8→Option Value) (v:World) (P:FsSt→Prop) (i:Nat) (W:World):Prop :=
 ∃ (σi:FsSt) (Ni:Nat) (Fi:List UInt8→Option Value),FsAt W base p b Ni σi Fi∧Ni≤N+2 * i∧Turn (zAU p b F) v W∧(∀ k,zAU p b Fi k→zAU p b F k∨v.heap.size≤k)∧P σi
theorem zGP {base p b N i:Nat} {F:List UInt8→Option Value} {v W w':World} {Ni:Nat} {σi:FsSt} {Fi:List UInt8→Option Value} {a:Ac} {z:Int} {P Q:FsSt→Prop} (h2:Ni≤N+2 * i) (h3:Turn (zAU p b F) v W) (h4:∀ k,zAU p b Fi k→zAU p b F k∨v.heap.size≤k)
  (hd:DidA base p b Ni σi Fi a W z w') (hs:∀ σ',((refC σi a≠0∧σ'=σi∧z=refC σi a)∨(refC σi a=0∧σ'=actS σi a∧z=zAx σi.f σi.g))→(z=0∧P σ')∨(z≠0∧Q σ')) :
  (z=0→stW base p b N F v P (i+1) w')∧(z≠0→stW base p b N F v Q (i+1) w'):=by
 obtain ⟨σ',N',F',a1,a2,a3,a4,a5⟩:=hd
 have hT:Turn (zAU p b F) v w':=h3.trans a3 (fun k hk hs =>by rcases h4 k hs with h | h;exact h;omega)
 have hS:∀ k,zAU p b F' k→zAU p b F k∨v.heap.size≤k:=fun k hk =>by
  rcases a4 k hk with h | h
  ·exact h4 k h
  ·exact .inr (Nat.le_trans h3.2.2.2.1 h)
 rcases hs σ' a5 with ⟨h,hP⟩ | ⟨h,hQ⟩
 ·exact ⟨fun _ =>⟨σ',N',F',a1,by omega,hT,hS,hP⟩,fun h' =>absurd h h'⟩
 ·exact ⟨fun h' =>absurd h' h,fun _ =>⟨σ',N',F',a1,by omega,hT,hS,hQ⟩⟩
structure zAj (w:World) (base m:Nat) (va ve:Value) (zs:List Rw) (es:List Value):Prop where
 recs:w.ownsRow base 41 7 va m (rws zs)
 deps:∀ z ∈ zs,w.ownsRow base 95 3 (.slice z.A z.n z.c) z.n (dps z.l)
 ends:w.ownsRow base 3 1 ve m es
theorem zAj.below {w w':World} {base m:Nat} {va ve:Value} {zs:List Rw} {es:List Value} (h:zAj w base m va ve zs es) (hb:Below w.heap.size w w'):zAj w' base m va ve zs es :=
 ⟨zAK h.recs hb,fun z hz =>zAK (h.deps z hz) hb,zAK h.ends hb⟩
theorem zAj.less {w:World} {base base' m:Nat} {va ve:Value} {zs:List Rw} {es:List Value} (h:zAj w base m va ve zs es) (hb:base'≤base):zAj w base' m va ve zs es :=
 ⟨zAT h.recs hb,fun z hz =>zAT (h.deps z hz) hb,zAT h.ends hb⟩
theorem zAj.kept {w w':World} {base m g:Nat} {va ve:Value} {zs:List Rw} {es:List Value} (h:zAj w base m va ve zs es) (hg:w.grownBy w' (some g)) (hn:g<base):zAj w' base m va ve zs es:=by
 have h1:∀ {e:TypeId} {size n:Nat} {v:Value} {xs:List Value},w.ownsRow base e size v n xs→w'.ownsRow base e size v n xs:=fun ho =>zAR ho (fun k hk =>hg.block k (zAP ho k hk) (fun e =>by have:=zAG ho k hk;have:=Option.some.inj e;omega))
 exact ⟨h1 h.recs,fun z hz =>h1 (h.deps z hz),h1 h.ends⟩
theorem zAj.turn {w w':World} {base m:Nat} {S:Nat→Prop} {va ve:Value} {zs:List Rw} {es:List Value} (h:zAj w base m va ve zs es) (ht:Turn S w w') (hn:∀ k,S k→k<base):zAj w' base m va ve zs es:=by
 have h1:∀ {e:TypeId} {size n:Nat} {v:Value} {xs:List Value},w.ownsRow base e size v n xs→w'.ownsRow base e size v n xs:=fun ho =>zAR ho (fun k hk =>ht.2.2.2.2 k (zAP ho k hk) (fun hs =>by have:=zAG ho k hk;have:=hn k hs;omega))
 exact ⟨h1 h.recs,fun z hz =>h1 (h.deps z hz),h1 h.ends⟩
theorem zAj.read {w:World} {base m c d:Nat} {A E:Option Addr} {zs:List Rw} {es:List Value} (h:zAj w base m (.slice A m c) (.slice E m d) zs es):Recs w w.heap.size A m zs∧zAD w w.heap.size 1 E m es:=by
 refine ⟨⟨zAD.of_own h.recs,fun z hz =>⟨zAD.of_own (h.deps z hz),fun e =>?_⟩⟩,zAD.of_own h.ends⟩
 obtain ⟨A',c',e2,h3⟩:=zAL (h.deps z hz)
 simp only [Value.slice.injEq] at e2
 rw [e2.2.2]
 exact h3 (e2.1▸e)
def zDq (ver:Int) (xs:List Rw) (m:Nat):List Value:=(List.range m).map fun i =>inv (eo ver xs (i+1))
def zDO (v:Nat) (xs:List Rw) (m:Nat) (W:World) (e:Ending) (w':World):Prop :=
 (∃ A3 E3 c3 d3 zs,e=.returned (.tuple #[.agg #[.int .i64 (v:Int),.slice A3 m c3,.slice E3 m d3,.int .i64 (eo (v:Int) xs m:Int)],.int .i64 0])∧zs.map Rw.say=(xs.take m).map Rw.say∧(∀ z ∈ zs,z.n≤1000000)∧zAj w' W.heap.size m (.slice A3 m c3) (.slice E3 m d3) zs (zDq (v:Int) xs m))∧Below W.heap.size W w'
theorem zOy (v:Nat) (xs:List Rw) (hm:zAe (v:Int) xs) (hf:∀ x ∈ xs,Fits x.r x.l) (hl60:∀ x ∈ xs,x.l.length≤1000000) (h30:xs.length≤1000) (m j:Nat) (hmn:m≤xs.length) (hj:(zAH (v:Int) [] (xs.take m)).length≤j) (hj2:m<xs.length→j<(zAH (v:Int) [] (xs.take (m+1))).length)
  (bs:List UInt8) (K:Nat) (hvg:vg bs=(v,0)) (hfr:frun (K+1) 8 bs=told 8 ((zAH (v:Int) [] xs).take j)) (A1:Option Addr) (c1:Nat) (hc1:K≤c1) (hK:K≤1073741824) (W:World) (hl:Laid W) (hr:zAD W W.heap.size 1 A1 K (bs.map bv)) :
  Calls Tryz.prog 47 #[.slice A1 K c1] W (zDO v xs m W):=by
 obtain ⟨f1,f2,f3,f4⟩:=zCx hm h30
 have hpl:((zAH (v:Int) [] xs).take j).length≤20000:=by rw [List.length_take];omega
 obtain ⟨ys,hys⟩:=zMZ (v:Int) ((zAH (v:Int) [] xs).take j) hpl (fun s hs =>by have:=(f4 s (List.mem_of_mem_take hs)).2;omega)
 obtain ⟨r1,r2,r3,r4⟩:=zPk hm hf h30 j m hmn hj hj2 hys
 have r5:=zPC hmn hj r1 r3
 have r6:=zOl hmn hj r1 r4
 obtain ⟨e9,he9,hst⟩:=hys.stop
 refine (zQn A1 K c1 bs hc1 hK v hvg (told 8 ((zAH (v:Int) [] xs).take j)) hfr.symm (by rw [zQH];exact hpl) ((zAH (v:Int) [] xs).take j) (zKE _ 8).symm ys (by omega) (fun i x hx =>⟨(hys.chn i x hx).lt,(hys.chn i x hx).le,(hys.chn i x hx).up⟩) e9 (by omega) hst W hl hr).mono ?_
 rintro e w1 ⟨⟨A3,E3,c3,d3,zs,rfl,hri⟩,hb1⟩
 have q1:=hri.recs
 have q2:=hri.ends
 have hsay:zs.map Rw.say=(xs.take m).map Rw.say:=by rw [hri.say,r2]
 have q3:=zST hri (fun x hx =>by
  have h2:sayR x ∈ (xs.take m).map Rw.say:=by rw [← r2];exact List.mem_map_of_mem hx
  obtain ⟨z,hz,e⟩:=List.mem_map.1 h2
  have h4:z.l=x.2.1:=congrArg Prod.snd e
  rw [← h4]
  exact hl60 z (List.mem_of_mem_take hz))
 rw [r6] at q2
 rw [r1] at q1 q2 ⊢
 rw [r5]
 exact ⟨⟨A3,E3,c3,d3,zs,rfl,hsay,q3,q1,hri.deps,q2⟩,hb1⟩
theorem zKz (v:Nat) (hv:1≤v∧v≤3) (xs:List Rw) (hm:zAe (v:Int) xs) (hf:∀ x ∈ xs,Fits x.r x.l) (hl60:∀ x ∈ xs,x.l.length≤1000000) (h30:xs.length≤1000) (k:Nat) (h8:8≤k) (hk:k≤(zAS v (v:Int) xs).length) :
  ∃ m,m≤xs.length∧(∀ i,i≤xs.length→(eo (v:Int) xs i≤k ↔ i≤m))∧∀ (A1:Option Addr) (c1:Nat) (W:World),k≤c1→Laid W→zAD W W.heap.size 1 A1 k (((zAS v (v:Int) xs).take k).map bv)→Calls Tryz.prog 47 #[.slice A1 k c1] W (zDO v xs m W):=by
 obtain ⟨m,j,m1,m2,m3,m4,m5⟩:=zRx v (v:Int) xs hm h30 k h8 hk
 obtain ⟨f1,f2,f3,f4⟩:=zCx hm h30
 have hN:(zAS v (v:Int) xs).length=8+(frs (zAH (v:Int) [] xs)).length:=by unfold zAS;rw [List.length_append,zBk]
 refine ⟨m,m1,m2,fun A1 c1 W hc1 hl hr =>?_⟩
 exact zOy v xs hm hf hl60 h30 m j m1 m4 m5 _ k (zSc hv xs k h8) m3 A1 c1 hc1 (by omega) W hl hr
theorem zND (v:Nat) (hv:1≤v∧v≤3) (xs:List Rw) (hm:zAe (v:Int) xs) (hf:∀ x ∈ xs,Fits x.r x.l) (hl60:∀ x ∈ xs,x.l.length≤1000000) (h30:xs.length≤1000) (A1:Option Addr) (c1:Nat) (W:World) (hc1:(zAS v (v:Int) xs).length≤c1) (hl:Laid W) (hr:zAD W W.heap.size 1 A1 (zAS v (v:Int) xs).length ((zAS v (v:Int) xs).map bv)) :
  Calls Tryz.prog 47 #[.slice A1 (zAS v (v:Int) xs).length c1] W (zDO v xs xs.length W):=by
 have hN:(zAS v (v:Int) xs).length=8+(frs (zAH (v:Int) [] xs)).length:=by unfold zAS;rw [List.length_append,zBk]
 obtain ⟨m,m1,m2,m3⟩:=zKz v hv xs hm hf hl60 h30 _ (by omega) (Nat.le_refl _)
 obtain rfl:m=xs.length:=by have:=(m2 xs.length (Nat.le_refl _)).1 (by rw [zEJ];exact Nat.le_refl _);omega
 exact m3 A1 c1 W hc1 hl (by rw [List.take_length];exact hr)
theorem zKT (p b N base:Nat) (σ:FsSt) (F:List UInt8→Option Value) (nm:List UInt8) (hnm:nm.length≤maxLen) (v n:Nat) (hv:1≤v∧v≤3) (xs:List Rw) (hnx:xs.length=n) (hm:zAe (v:Int) xs) (hf:∀ x ∈ xs,Fits x.r x.l) (hl60:∀ x ∈ xs,x.l.length≤1000000) (h30:xs.length≤1000) (s:Nat) (hfl:σ.fl nm=some ⟨zAS v (v:Int) xs,s⟩) (w:World) (hl:Laid w) (hx:FsAt w base p b N σ F) :
  Calls Tryz.prog 27 #[.pointer (some ⟨p,0,none⟩),.string (tx nm)] w (zDO v xs n w):=by
 obtain ⟨f1,f2,f3,f4⟩:=zCx hm h30
 have hN:(zAS v (v:Int) xs).length=8+(frs (zAH (v:Int) [] xs)).length:=by unfold zAS;rw [List.length_append,zBk]
 have heo:eo (v:Int) xs n=(zAS v (v:Int) xs).length:=by rw [zEJ,hnx]
 have hGET:∀ W,Below w.heap.size w W→∀ A1 c1,(zAS v (v:Int) xs).length≤c1→zAD W W.heap.size 1 A1 (zAS v (v:Int) xs).length ((zAS v (v:Int) xs).map bv)→Calls Tryz.prog 47 #[.slice A1 (zAS v (v:Int) xs).length c1] W (zDO v xs n W):=fun W hb A1 c1 hc1 hr1 =>by
  rw [← hnx]
  exact zND v hv xs hm hf hl60 h30 A1 c1 W hc1 (hl.below hb) hr1
 have hb0:=(Below.refl w.heap.size w).alloc (Nat.le_refl _) (.cells #[.int .i64 0,.slice none 0 0,.slice none 0 0,.int .i64 0] 48)
 have hx0:=zAE w (.cells #[.int .i64 0,.slice none 0 0,.slice none 0 0,.int .i64 0] 48)
 obtain ⟨hxb,hxf⟩:=hx.below hb0
 have hRD:=zFp p b N base σ.down σ.f σ.g σ.fl F nm hnm ⟨zAS v (v:Int) xs,s⟩ hfl (by show (zAS v (v:Int) xs).length≤_;omega) (w.alloc (.cells #[.int .i64 0,.slice none 0 0,.slice none 0 0,.int .i64 0] 48)) hxb hxf
 simp only at hRD
 obtain ⟨B,hB⟩:∃ B,B=zAS v (v:Int) xs:=⟨_,rfl⟩
 rw [← hB] at hRD hGET heo hN
 obtain ⟨K,hK⟩:∃ K,K=B.length:=⟨_,rfl⟩
 rw [← hK] at hRD hGET heo hN
 have HRD:=yh hRD
 have HGET:=yh hGET
 have HEO:=yh heo
 have HB0:=yh hb0
 have HX0:=yh hx0
 clear hRD hGET heo hN hb0 hx0 hxb hxf hB hK f1 f2 f3 f4 hl hx hm hf hl60 h30 hfl hnx
 go_enter Tryz.func27,Tryz.ntmps27
 go_wp2_with fail
 refine HRD.out.mono ?_
 rintro e w2 ⟨⟨A',c',rfl,_,ho⟩,hb2⟩
 obtain ⟨_,_,he,hc,hr⟩:=zBF ho
 cases he
 have HB2:=yh (HB0.out.trans (hb2.mono HB0.out.size))
 have HX2:=yh ((hb2.block w.heap.size (Array.getElem?_eq_some_iff.1 HX0.out).1).trans HX0.out)
 have HR:=yh hr
 have HC:=yh hc
 clear ho hb2 hr hc
 go_wp2_with fail
 refine (HGET.out _ HB2.out A' c' HC.out HR.out).mono ?_
 rintro e w3 ⟨⟨A3,E3,c3,d3,zs,rfl,hsay,hzn,hro⟩,hb3⟩
 rw [HEO.out]
 have HB3:=yh (HB2.out.trans (hb3.mono HB2.out.size))
 have hx3:=(hb3.block w.heap.size (Array.getElem?_eq_some_iff.1 HX2.out).1).trans HX2.out
 have hb34:=(Below.refl w3.heap.size w3).alloc (Nat.le_refl _) (.cells #[.int .i64 (v:Int),.slice A3 n c3,.slice E3 n d3,.int .i64 (K:Int)] 48)
 have hxf:=zAE w3 (.cells #[.int .i64 (v:Int),.slice A3 n c3,.slice E3 n d3,.int .i64 (K:Int)] 48)
 have hx4:=(hb34.block w.heap.size (Array.getElem?_eq_some_iff.1 hx3).1).trans hx3
 have HB4:=yh (HB3.out.trans (hb34.mono HB3.out.size))
 have HRO:=yh (hro.below hb34)
 have HLT:Hid (w.heap.size<w2.heap.size):=(Array.getElem?_eq_some_iff.1 HX2.out).1
 have HX4:=yh hx4
 have HSAY:=yh hsay
 have HZN:=yh hzn
 have q0:=zAA (i:=0) hxf rfl;have q1:=zAA (i:=1) hxf rfl;have q2:=zAA (i:=2) hxf rfl;have q3:=zAA (i:=3) hxf rfl
 have r0:=zAA (i:=0) hx4 rfl;have r1:=zAA (i:=1) hx4 rfl;have r2:=zAA (i:=2) hx4 rfl;have r3:=zAA (i:=3) hx4 rfl
 have y0:=zAC (i:=0) hx4;have y1:=zAC (i:=1) hx4;have y2:=zAC (i:=2) hx4;have y3:=zAC (i:=3) hx4
 clear hb3 hx3 hb34 hxf hx4 hro hsay hzn
 go_wp2
 have g0:=zBg (W:=w3.alloc (.cells #[.int .i64 (v:Int),.slice A3 n c3,.slice E3 n d3,.int .i64 (K:Int)] 48)) (b:=w.heap.size) (.int .i64 (v:Int)) (.slice A3 n c3) (.slice E3 n d3) (.int .i64 (K:Int))
 have hx5:=zAF (zAF (zAF (zAF HX4.out 0 (.int .i64 (v:Int))) 1 (.slice A3 n c3)) 2 (.slice E3 n d3)) 3 (.int .i64 (K:Int))
 refine bodyPost_ret (zBl Tryz.results27 _ _ w.heap.size _ _ (0,0) _ rfl hx5 Tryz.underlying48 rfl (by kernel_rfl)) rfl ?_
 refine ⟨⟨A3,E3,c3,d3,zs,by rw [HEO.out];rfl,HSAY.out,HZN.out,(HRO.out.kept g0 HLT.out).less (Nat.le_of_lt HLT.out)⟩,?_⟩
 exact HB4.out.grown g0 HB4.out.size (fun k e =>by cases e;exact Nat.le_refl _)
structure Good (σ:FsSt) (i:Nat):Prop where
 few:∃ L:List (List UInt8),L.length≤i∧∀ u,(σ.fl u).isSome=true→u ∈ L
 each:∀ u y,σ.fl u=some y→y.body.length≤300 * i∧y.safe≤y.body.length∧u.length≤100
 hf:zAN σ.f
 hg:zAN σ.g
theorem Good.names {σ:FsSt} {i:Nat} (h:Good σ i):∀ ns,zGC σ.fl ns→ns.length≤i:=fun ns hn =>by
 obtain ⟨L,hl,hm⟩:=h.few
 have hnd:ns.Nodup:=hn.1.imp fun {a b} hab e =>by rw [e] at hab;exact List.lt_irrefl b hab
 exact Nat.le_trans (List.Nodup.length_le_of_subset hnd (fun u hu =>hm u ((hn.2 u).1 hu))) hl
theorem Good.more {σ:FsSt} {i:Nat} (h:Good σ i):Good σ (i+1):=by
 obtain ⟨L,hl,hm⟩:=h.few
 exact ⟨⟨L,by omega,hm⟩,fun u y hu =>by have:=h.each u y hu;omega,h.hf,h.hg⟩
theorem zOZ {n:Int} (h:n≤9223372036854775807):zAN (zCn n):=by
 unfold zAN zCn
 simp
 omega
theorem SzS.nil (m:Nat):SzS m ⟨fun _ =>none,false,(false,0),(false,0)⟩:=fun _ _ h =>by cases h
def fs0:FsSt:=⟨fun _ =>none,false,(false,0),(false,0)⟩
theorem zMy:zBb fs0:=⟨rfl,rfl,rfl⟩
theorem zJE {p b n0 k:Nat} (hp:n0≤p) (hb:n0≤b) (h:zAU p b (fun _ =>none) k):n0≤k:=by
 rcases h with rfl | rfl | ⟨u,A,n,c,s,e,_⟩
 ·exact hp
 ·exact hb
 ·cases e
def rj0:Rw:=⟨⟨1,[97],0,7,0,[]⟩,none,0,0,[]⟩
theorem zRY:MayP 2 rj0.r rj0.l:=by
 refine ⟨by omega,by omega,by decide,.inl ⟨rfl,?_,?_,?_⟩⟩
 ·simp [zEU,rj0]
 ·simp [TagP,rj0]
 ·simp [zET,rj0,names]
theorem zGo:Nums rj0.r rj0.l:=⟨by simp [rj0],by simp [rj0],by simp [rj0],fun d hd =>by cases hd⟩
theorem zJp:Fits rj0.r rj0.l:=⟨by simp [rj0,maxLen],by simp [rj0,maxLen],fun d hd =>by cases hd⟩
def JS (w:World) (base p b:Nat) (P:FsSt→Prop) (m:Nat) (W:World):Prop :=
 ∃ (σ:FsSt) (N:Nat) (F:List UInt8→Option Value),FsAt W base p b N σ F∧N≤m∧(∀ k,zAU p b F k→base≤k)∧base≤W.heap.size∧Below base w W∧P σ
theorem JS.below {w W w':World} {base p b m:Nat} {P:FsSt→Prop} (h:JS w base p b P m W) (hb:Below W.heap.size W w'):JS w base p b P m w':=by
 obtain ⟨σ,N,F,h1,h2,h3,h4,h5,h6⟩:=h
 exact ⟨σ,N,F,h1.below hb,h2,h3,Nat.le_trans h4 hb.size,h5.trans (hb.mono h4),h6⟩
theorem JS.under {w W:World} {base p b m:Nat} {P:FsSt→Prop} (h:JS w base p b P m W):Below base w W∧base≤W.heap.size:=by
 obtain ⟨σ,N,F,h1,h2,h3,h4,h5,h6⟩:=h
 exact ⟨h5,h4⟩
theorem JS.imp {w W:World} {base p b m:Nat} {P Q:FsSt→Prop} (h:JS w base p b P m W) (hi:∀ σ,P σ→Q σ):JS w base p b Q m W:=by
 obtain ⟨σ,N,F,h1,h2,h3,h4,h5,h6⟩:=h
 exact ⟨σ,N,F,h1,h2,h3,h4,h5,hi σ h6⟩
theorem JS.room {w W:World} {base p b m m':Nat} {P:FsSt→Prop} (h:JS w base p b P m W) (hm:m≤m'):JS w base p b P m' W:=by
 obtain ⟨σ,N,F,h1,h2,h3,h4,h5,h6⟩:=h
 exact ⟨σ,N,F,h1,by omega,h3,h4,h5,h6⟩
theorem zNL (p:Nat) (nm sd:List UInt8) (ver:Int) (en:Int) (hen:en≠0) (A:Option Addr) (n c:Nat) (w:World)
  (HP:Hid (∀ W,Below w.heap.size w W→Calls Tryz.prog 68 #[.int .i64 ver,.slice A n c] W fun e w' =>e=.returned (.tuple #[.slice none 0 0,.int .i64 en])∧Below W.heap.size W w')) :
  Calls Tryz.prog 46 #[.pointer (some ⟨p,0,none⟩),.string (tx nm),.string (tx sd),.int .i64 ver,.slice A n c] w fun e w' =>e=.returned (.int .i64 en)∧Below w.heap.size w w':=by
 have HB1:Below w.heap.size w (w.alloc (.cells #[.pointer (some ⟨p,0,none⟩)] 27)):=(Below.refl _ _).alloc (Nat.le_refl _) _
 have HB2:Below w.heap.size w ((w.alloc (.cells #[.pointer (some ⟨p,0,none⟩)] 27)).alloc (.cells #[.string (tx nm)] 9)):=HB1.alloc HB1.size _
 have HB3:Hid (Below w.heap.size w (((w.alloc (.cells #[.pointer (some ⟨p,0,none⟩)] 27)).alloc (.cells #[.string (tx nm)] 9)).alloc (.cells #[.string (tx sd)] 9))):=HB2.alloc HB2.size _
 have z1:(w.alloc (.cells #[.pointer (some ⟨p,0,none⟩)] 27)).heap.size=w.heap.size+1:=by simp
 have z2:((w.alloc (.cells #[.pointer (some ⟨p,0,none⟩)] 27)).alloc (.cells #[.string (tx nm)] 9)).heap.size=w.heap.size+2:=by simp
 have e1:=(Below.heap_alloc ((w.alloc (.cells #[.pointer (some ⟨p,0,none⟩)] 27)).alloc (.cells #[.string (tx nm)] 9)) (.cells #[.string (tx sd)] 9) w.heap.size (by rw [z2];omega)).trans ((Below.heap_alloc (w.alloc (.cells #[.pointer (some ⟨p,0,none⟩)] 27)) (.cells #[.string (tx nm)] 9) w.heap.size (by rw [z1];omega)).trans (zAE w (.cells #[.pointer (some ⟨p,0,none⟩)] 27)))
 have q1:=zAA (i:=0) e1 rfl
 have hen2:(en == 0)=false:=by simpa using hen
 clear HB1 HB2 z1 z2 e1
 go_enter Tryz.func46,Tryz.ntmps46
 go_wp2_with fail
 refine (HP.out _ HB3.out).mono ?_
 rintro e w4 ⟨rfl,hb4⟩
 have HB4:=yh (HB3.out.trans (hb4.mono HB3.out.size))
 clear hb4
 go_wp2
 go_ret
 exact ⟨rfl,by first | exact HB4.out | exact HB4.out.alloc HB4.out.size _⟩
section
variable {w W:World} {base p b m:Nat}
end
structure Ja (C:List UInt8) (s:Nat) (σ:FsSt):Prop where
 log:σ.fl [108,111,103]=some ⟨C,s⟩
 nf:σ.f.1=false
 hg:zAN σ.g
 sz:SzS 40000000 σ
structure Jz (C:List UInt8) (σ:FsSt):Prop where
 log:σ.fl [108,111,103]=some ⟨C,C.length⟩
 q:zBb σ
 sz:SzS 40000000 σ
theorem Ja.hf {C:List UInt8} {s:Nat} {σ:FsSt} (h:Ja C s σ):zAN σ.f:=fun e =>by rw [h.nf] at e;cases e
theorem Ja.le {C:List UInt8} {s:Nat} {σ:FsSt} (h:Ja C s σ):s≤C.length∧C.length≤40000000:=⟨(h.sz _ _ h.log).2.1,(h.sz _ _ h.log).1⟩
theorem Jz.ja {C:List UInt8} {σ:FsSt} (h:Jz C σ):Ja C C.length σ:=⟨h.log,h.q.2.1,(fun e =>by rw [h.q.2.2] at e;cases e),h.sz⟩
def JT (w:World) (base p b:Nat) (T:Nat→Prop) (P:FsSt→Prop) (m:Nat) (W:World):Prop :=
 ∃ (σ:FsSt) (N:Nat) (F:List UInt8→Option Value),FsAt W base p b N σ F∧N≤m∧(∀ k,zAU p b F k→base≤k∧¬ T k)∧base≤W.heap.size∧(∀ k,T k→k<W.heap.size)∧Below base w W∧P σ
def Past (T:Nat→Prop) (W w':World):Prop:=∀ k,T k→w'.heap[k]? = W.heap[k]?
theorem Past.trans {T:Nat→Prop} {a b c:World} (h:Past T a b) (k:Past T b c):Past T a c:=fun i hi =>(k i hi).trans (h i hi)
theorem Past.row {T:Nat→Prop} {W w':World} (h:Past T W w') {e:TypeId} {size n base:Nat} {v:Value} {xs:List Value} (ho:W.ownsRow base e size v n xs) (hT:∀ k,v.ownBlock=some k→T k):w'.ownsRow base e size v n xs :=
 zAR ho (fun k hk =>h k (hT k hk))
theorem Past.of_below {T:Nat→Prop} {W w':World} (hb:Below W.heap.size W w') (hT:∀ k,T k→k<W.heap.size):Past T W w':=fun k hk =>hb.block k (hT k hk)
theorem zED {w W w':World} {base p b m N':Nat} {T:Nat→Prop} {P:FsSt→Prop} {σ':FsSt} {F F':List UInt8→Option Value} (h1:∀ k,zAU p b F k→base≤k∧¬ T k) (h2:base≤W.heap.size) (hT:∀ k,T k→k<W.heap.size) (h3:Below base w W)
    (g1:FsAt w' base p b N' σ' F') (g2:N'≤m) (g3:Turn (zAU p b F) W w') (g4:∀ k,zAU p b F' k→zAU p b F k∨W.heap.size≤k) (hP:P σ'):JT w base p b T P m w'∧Past T W w' :=
  ⟨⟨σ',N',F',g1,g2,fun k hk =>by
    rcases g4 k hk with h | h
    · exact h1 k h
    · exact ⟨by omega,fun ht =>by have:=hT k ht;omega⟩,Nat.le_trans h2 g3.2.2.2.1,fun k hk =>Nat.lt_of_lt_of_le (hT k hk) g3.2.2.2.1,h3.trans (g3.below (fun k hk =>(h1 k hk).1) h2),hP⟩,
   fun k hk =>g3.2.2.2.2 k (hT k hk) (fun hs =>(h1 k hs).2 hk)⟩
theorem JT.below {w W w':World} {base p b m:Nat} {T:Nat→Prop} {P:FsSt→Prop} (h:JT w base p b T P m W) (hb:Below W.heap.size W w'):JT w base p b T P m w':=by
 obtain ⟨σ,N,F,h1,h2,h3,h4,hT,h5,h6⟩:=h
 exact ⟨σ,N,F,h1.below hb,h2,h3,Nat.le_trans h4 hb.size,fun k hk =>Nat.lt_of_lt_of_le (hT k hk) hb.size,h5.trans (hb.mono h4),h6⟩
theorem JT.wide {w W w':World} {base p b m:Nat} {T:Nat→Prop} {P:FsSt→Prop} (h:JT w base p b T P m W) (hb:Below W.heap.size W w'):JT w base p b (fun k =>T k∨(W.heap.size≤k∧k<w'.heap.size)) P m w':=by
 obtain ⟨σ,N,F,h1,h2,h3,h4,hT,h5,h6⟩:=h
 have hlt:=zHA h1.2 h1.1
 exact ⟨σ,N,F,h1.below hb,h2,fun k hk =>⟨(h3 k hk).1,fun ht =>by rcases ht with ht | ht;exact (h3 k hk).2 ht;have:=hlt k hk;omega⟩,Nat.le_trans h4 hb.size,fun k hk =>by rcases hk with hk | hk;exact Nat.lt_of_lt_of_le (hT k hk) hb.size;exact hk.2,h5.trans (hb.mono h4),h6⟩
theorem JT.kept {w W w':World} {base p b m:Nat} {S T:Nat→Prop} {P:FsSt→Prop} (h:JT w base p b T P m W) (ht:Turn S W w') (hS:∀ k,S k→T k∧base≤k):JT w base p b T P m w':=by
 obtain ⟨σ,N,F,h1,h2,h3,h4,hT,h5,h6⟩:=h
 exact ⟨σ,N,F,h1.past ht (fun k hk hs =>(h3 k hk).2 (hS k hs).1),h2,h3,Nat.le_trans h4 ht.2.2.2.1,fun k hk =>Nat.lt_of_lt_of_le (hT k hk) ht.2.2.2.1,h5.trans (ht.below (fun k hk =>(hS k hk).2) h4),h6⟩
theorem JT.under {w W:World} {base p b m:Nat} {T:Nat→Prop} {P:FsSt→Prop} (h:JT w base p b T P m W):Below base w W∧base≤W.heap.size:=by
 obtain ⟨σ,N,F,h1,h2,h3,h4,hT,h5,h6⟩:=h
 exact ⟨h5,h4⟩
theorem JT.lt {w W:World} {base p b m:Nat} {T:Nat→Prop} {P:FsSt→Prop} (h:JT w base p b T P m W):∀ k,T k→k<W.heap.size:=by
 obtain ⟨σ,N,F,h1,h2,h3,h4,hT,h5,h6⟩:=h
 exact hT
theorem JT.imp {w W:World} {base p b m:Nat} {T:Nat→Prop} {P Q:FsSt→Prop} (h:JT w base p b T P m W) (hi:∀ σ,P σ→Q σ):JT w base p b T Q m W:=by
 obtain ⟨σ,N,F,h1,h2,h3,h4,hT,h5,h6⟩:=h
 exact ⟨σ,N,F,h1,h2,h3,h4,hT,h5,hi σ h6⟩
theorem JT.less {w W:World} {base p b m:Nat} {T T':Nat→Prop} {P:FsSt→Prop} (h:JT w base p b T P m W) (hT':∀ k,T' k→T k):JT w base p b T' P m W:=by
 obtain ⟨σ,N,F,h1,h2,h3,h4,hT,h5,h6⟩:=h
 exact ⟨σ,N,F,h1,h2,fun k hk =>⟨(h3 k hk).1,fun ht =>(h3 k hk).2 (hT' k ht)⟩,h4,fun k hk =>hT k (hT' k hk),h5,h6⟩
theorem JT.room {w W:World} {base p b m m':Nat} {T:Nat→Prop} {P:FsSt→Prop} (h:JT w base p b T P m W) (hm:m≤m'):JT w base p b T P m' W:=by
 obtain ⟨σ,N,F,h1,h2,h3,h4,hT,h5,h6⟩:=h
 exact ⟨σ,N,F,h1,by omega,h3,h4,hT,h5,h6⟩
section
variable {w W:World} {base p b m:Nat} {T:Nat→Prop}
end
theorem zIZ:(Tryz.prog.info? 3).map (fun i =>(i.zero,i.size,i.bytes))=some (some (.int .i64 0),1,8):=by kernel_rfl
theorem zFH (A:Option Addr) (n c:Nat) (xs:List Value) (hn:n≤1073741824) (hA:A=none→c=0) (hone:∀ u ∈ xs,u.oneCell'=true) (w:World) (hr:zAD w w.heap.size 1 A n xs) :
  Calls Tryz.prog 111 #[.slice A n c] w fun e w' =>∃ v,e=.returned v∧w'.ownsRow w.heap.size 3 1 v n xs∧Below w.heap.size w w':=by
 obtain ⟨i0,hi,hz0,hz1,hz2⟩:=info_parts zIZ
 have hlen:=hr.1
 cases A with
 | none =>
  obtain rfl:=hA rfl
  have hn0:n=0:=by
   rcases Nat.eq_zero_or_pos n with h0 | h0
   ·exact h0
   ·obtain ⟨_,e,_⟩:=hr.2 h0
    cases e
  subst hn0
  obtain rfl:xs=[]:=List.eq_nil_of_length_eq_zero (by simpa using hlen)
  have he:∀ w:World,(binOp .eql 46 (.slice none 0 0) (.slice none 0 0)).run Tryz.prog w=.ok (.bool true) w:=fun _ =>rfl
  clear hr hlen hone hA
  go_enter Tryz.func111,Tryz.ntmps111
  go_wp2
  go_ret
  exact ⟨_,rfl,World.ownsRow_nil _ _ _ _,Below.refl _ _⟩
 | some ad =>
  have he:∀ w:World,(binOp .eql 46 (.slice (some ad) n c) (.slice none 0 0)).run Tryz.prog w=.ok (.bool false) w:=fun _ =>rfl
  have hal:=hr.alloc (Nat.le_refl _) (.cells #[] 3)
  clear hlen hr
  go_enter Tryz.func111,Tryz.ntmps111
  go_wp2_with (at_builtin;refine zBT _ rfl (.tmp 5) (.tmp 6) 46 rfl w.heap.size 3 i0 (.int .i64 0) 8 Tryz.underlying46 hi hz0 hz1 hz2 rfl (.slice (some ⟨w.heap.size,0,none⟩) 0 0) 0 [] rfl (zId _ _) (some ad) n c w.heap.size _ rfl (fun e =>by cases e) hal hone (by unfold maxLen;omega) (by omega) (by simp) ?_;intro v3 w3 ho3 hg3)
  go_ret
  exact ⟨_,rfl,by simpa using ho3,((Below.refl _ w).alloc (Nat.le_refl _) _).grown hg3 (by simp) (fun k hk =>by simp [Value.ownBlock] at hk;omega)⟩
theorem zCj {w:World} {ops:Array Oper} {rest:List Oper} {o:Oper} {a:Act} {Q:Exit→Act→World→Prop} (hgd:o.guard=none) (x y:Operand) (ho:o.op=.store 46 x y) (g:Nat) (c0 c1 c2 c3:Value) (A:Option Addr) (n c:Nat)
  (hx:a.eval x=.pointer (some ⟨g,2,none⟩)) (hy:a.eval y=.slice A n c) (hg:w.heap[g]? = some (.cells #[c0,c1,c2,c3] 48 (0,0)))
  (h:∀ w',w'.heap[g]? = some (.cells #[c0,c1,.slice A n c,c3] 48 (0,0))→w.grownBy w' (some g)→wpList Tryz.prog ops Q rest (a.put o.dst undef) w'):wpList Tryz.prog ops Q (o :: rest) a w:=by
 have hown:w.ownsRow 0 48 4 (.slice (some ⟨g,0,none⟩) 1 1) 1 [c0,c1,c2,c3]:=⟨rfl,.inr ⟨g,1,#[c0,c1,c2,c3],rfl,Nat.zero_le _,hg,Nat.le_refl _,by unfold maxLen;omega,rfl,rfl⟩⟩
 have hcell:w.cell? ⟨g,2,none⟩=some c2:=zAA (i:=2) hg rfl
 have hfr:w.frozen? ⟨g,2,none⟩=false:=hown.frozenAt 2
 refine wpList_plain hgd fun K hK =>?_
 unfold Oper.wp execOp
 simp only [ho,hx,hy]
 go_simp
 exact hK _ _ (h _ (zAF hg 2 _) (hown.stored 2 _).2)
theorem zCN (r:Rc) (A:Option Addr) (n c:Nat) (l:List Dp) (hA:A=none→c=0) (hn:n≤1000000) (w:World) (h:zAD w w.heap.size 3 A n (dps l)) :
  Calls Tryz.prog 39 #[rcv r A n c] w fun e w' =>∃ A' c',e=.returned (rcv r A' n c')∧Deps w' w.heap.size A' n c' l∧Below w.heap.size w w':=by
 obtain ⟨i0,hi0,hz0,hz1,hz2⟩:=info_parts (show (Tryz.prog.info? 95).map (fun i =>(i.zero,i.size,i.bytes))=some (some (.agg #[.string ⟨#[]⟩,.int .u64 0,.bool false]),3,32) from by kernel_rfl)
 unfold rcv rsv
 obtain ⟨ha0,ha1,hsz⟩:=zGQ w (.cells #[.int .i64 r.kind,.string (tx r.target),.int .u64 r.rule,.slice A n c,.int .u64 r.out,.int .u64 r.time,.string (tx r.tag)] 41) (.cells #[.int .i64 0,.string ⟨#[]⟩,.int .u64 0,.slice none 0 0,.int .u64 0,.int .u64 0,.string ⟨#[]⟩] 41)
 have hr:=(h.alloc (Nat.le_refl _) (.cells #[.int .i64 r.kind,.string (tx r.target),.int .u64 r.rule,.slice A n c,.int .u64 r.out,.int .u64 r.time,.string (tx r.tag)] 41)).alloc (by simp) (.cells #[.int .i64 0,.string ⟨#[]⟩,.int .u64 0,.slice none 0 0,.int .u64 0,.int .u64 0,.string ⟨#[]⟩] 41)
 have hb:=(((Below.refl w.heap.size w).alloc (Nat.le_refl _) (.cells #[.int .i64 r.kind,.string (tx r.target),.int .u64 r.rule,.slice A n c,.int .u64 r.out,.int .u64 r.time,.string (tx r.tag)] 41)).alloc (by simp) (.cells #[.int .i64 0,.string ⟨#[]⟩,.int .u64 0,.slice none 0 0,.int .u64 0,.int .u64 0,.string ⟨#[]⟩] 41))
 have HR:=yh hr
 have HB:=yh hb
 have HA0:=yh ha0
 have HA1:=yh ha1
 have HSZ:=yh hsz
 clear h hr hb ha0 ha1 hsz
 go_enter Tryz.func39,Tryz.ntmps39
 go_wp2_with (at_builtin;refine zAw _ rfl (.const (.slice none 0 0)) (.tmp 4) 39 rfl (w.heap.size+2) 95 i0 _ 3 32 Tryz.underlying39 hi0 hz0 hz1 hz2 rfl (by decide) (.slice none 0 0) 0 [] rfl (World.ownsRow_nil _ _ _ _) A n c w.heap.size (dps l) rfl hA HR.out (zHp l) (by unfold maxLen;omega) (by omega) (by rw [HSZ.out];exact Nat.le_refl _) ?_;intro v1 w1 ho1 hg1;rw [Nat.zero_add,List.nil_append] at ho1;obtain ⟨A1,c1,rfl,hc1⟩:=zAL ho1;have hh0:=(hg1.block w.heap.size (by rw [HSZ.out];omega) (by simp [Value.ownBlock])).trans HA0.out;have hh1:=(hg1.block (w.heap.size+1) (by rw [HSZ.out];omega) (by simp [Value.ownBlock])).trans HA1.out;have HB1:=yh (HB.out.grown hg1 (by rw [HSZ.out];omega) (by simp [Value.ownBlock]));have HO1:=yh ho1;have q0:=zAA (i:=0) hh0 rfl;have q1:=zAA (i:=1) hh0 rfl;have q2:=zAA (i:=2) hh0 rfl;have q3:=zAA (i:=3) hh0 rfl;have q4:=zAA (i:=4) hh0 rfl;have q5:=zAA (i:=5) hh0 rfl;have q6:=zAA (i:=6) hh0 rfl;have p0:=zAA (i:=0) hh1 rfl;have p1:=zAA (i:=1) hh1 rfl;have p2:=zAA (i:=2) hh1 rfl;have p3:=zAA (i:=3) hh1 rfl;have p4:=zAA (i:=4) hh1 rfl;have p5:=zAA (i:=5) hh1 rfl;have p6:=zAA (i:=6) hh1 rfl;have z3:=zAC (i:=3) hh0;have y0:=zAC (i:=0) hh1;have y1:=zAC (i:=1) hh1;have y2:=zAC (i:=2) hh1;have y3:=zAC (i:=3) hh1;have y4:=zAC (i:=4) hh1;have y5:=zAC (i:=5) hh1;have y6:=zAC (i:=6) hh1;have HH0:=yh hh0;have HH1:=yh hh1;clear hh0 hh1 ho1 hg1)
 have hfin:=zAF (zAF (zAF (zAF (zAF (zAF (zAF ((Below.heap_setCell w1 ⟨w.heap.size,3,none⟩ (.slice A1 n c1) (w.heap.size+1) (by show w.heap.size+1≠w.heap.size;omega)).trans HH1.out) 0 (.int .i64 r.kind)) 1 (.string (tx r.target))) 2 (.int .u64 r.rule)) 3 (.slice A1 n c1)) 4 (.int .u64 r.out)) 5 (.int .u64 r.time)) 6 (.string (tx r.tag))
 refine bodyPost_ret (results_cell_row rfl _ _ _ _ _ _ _ rfl hfin Tryz.underlying41 rfl (by kernel_rfl)) rfl ?_
 refine ⟨A1,c1,rfl,⟨zAT ?_ (show w.heap.size≤w.heap.size+2 by omega),hc1⟩,?_⟩
 ·exact ownsRow_setCell_below (ownsRow_setCell_below (ownsRow_setCell_below (ownsRow_setCell_below (ownsRow_setCell_below (ownsRow_setCell_below (ownsRow_setCell_below (ownsRow_setCell_below HO1.out (show w.heap.size<w.heap.size+2 by omega) _) (show w.heap.size+1<w.heap.size+2 by omega) _) (show w.heap.size+1<w.heap.size+2 by omega) _) (show w.heap.size+1<w.heap.size+2 by omega) _) (show w.heap.size+1<w.heap.size+2 by omega) _) (show w.heap.size+1<w.heap.size+2 by omega) _) (show w.heap.size+1<w.heap.size+2 by omega) _) (show w.heap.size+1<w.heap.size+2 by omega) _
 ·exact (((((((HB1.out.setCell (show w.heap.size≤w.heap.size by omega) _).setCell (show w.heap.size≤w.heap.size+1 by omega) _).setCell (show w.heap.size≤w.heap.size+1 by omega) _).setCell (show w.heap.size≤w.heap.size+1 by omega) _).setCell (show w.heap.size≤w.heap.size+1 by omega) _).setCell (show w.heap.size≤w.heap.size+1 by omega) _).setCell (show w.heap.size≤w.heap.size+1 by omega) _).setCell (show w.heap.size≤w.heap.size+1 by omega) _
end Go.Proofs.YtekchkfjgofnkaaGreatDoor
