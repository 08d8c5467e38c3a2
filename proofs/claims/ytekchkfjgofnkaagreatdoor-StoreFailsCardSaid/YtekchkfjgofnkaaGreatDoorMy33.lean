/- Texts of one proof. -/
import Derived.Test.YtekchkfjgofnkaaGreatDoorMy32
set_option maxRecDepth 100000
set_option maxHeartbeats 8000000
namespace Go.Proofs.YtekchkfjgofnkaaGreatDoor
open Go.RowKit Go.Maps Go.ChangeMaps Go.WideMaps Go.Sort
theorem zKO {W w3 w4:World} {base b p N k c q:Nat} {d:Bool} {fa ga:Bool×Int} {fl:List UInt8→Option Fl} {f:List UInt8→Option Value} {s ys:List UInt8} {A:Option Addr} (h:zAZ W base b N fl f) (hx:zAM W p b d fa ga) (hb:Below W.heap.size W w3)
  (ho:w3.ownsRow W.heap.size 5 1 (.slice A k c) k (ys.map bv)) (hk:ys.length=k) (hA:A=none→c=0) (hbase:base≤W.heap.size) (hm:TMap w4 b (N+1) (fput f s (fval A k c q))) (hg:w3.grownBy w4 (some b)) :
  zAZ w4 base b (N+1) (zAb fl s (some ⟨ys,q⟩)) (fput f s (fval A k c q))∧zAM w4 p b d fa ga∧Turn (zAU p b f) W w4∧∀ j,zAU p b (fput f s (fval A k c q)) j→zAU p b f j∨W.heap.size≤j:=by
 subst hk
 obtain ⟨es0,ck0,hmb⟩:=h.1.heap
 have hblt:b<W.heap.size:=zAJ hmb
 have hm3:=(hb.block b hblt).trans hmb
 have hpb:p≠b:=fun e =>by
  rw [← e,show W.heap[p]? = some _ from hx] at hmb
  cases hmb
 refine ⟨zFg (w1:=w3) (x:=⟨ys,q⟩) h (fun u y A' c' _ _ _ ho' =>zAK ho' hb) hA (zAT ho hbase) (fun u A' n' c' s' _ hu g h1 h2 =>?_) ⟨_,_,hm3⟩ hm hg,?_,?_,fun j hj =>?_⟩
 ·have:=zAG ho g h1
  have:=zGc h hu g h2
  omega
 ·exact (hg.block p (Nat.lt_of_lt_of_le hx.lt hb.size) (fun e =>hpb (Option.some.inj e))).trans (hx.below hb)
 ·exact (Turn.of_below hb).grown hg (fun i hi _ =>.inr (.inl (Option.some.inj hi).symm))
 ·rcases zGF hj with h1 | h1
  ·exact .inl h1
  ·exact .inr (zAG ho j h1)
theorem zQI (p b N base bo bs bf bn:Nat) (d:Bool) (fa ga:Bool×Int) (fl:List UInt8→Option Fl) (F:List UInt8→Option Value) (s:List UInt8) (hs:s.length≤maxLen) (A:Option Addr) (n c q k:Nat) (body:List UInt8) (hN:N<1000000) (hn:n≤1073741824) (hnc:n≤c) (hcm:c≤maxLen) (hA:A=none→c=0) (hk:k≤n) (W:World) (hbase:base≤W.heap.size)
  (hx:zAM W p b d fa ga) (hf:zAZ W base b N fl F) (h0:W.heap[bo]? = some (.cells #[.slice A n c,.int .i64 (q:Int)] 85)) (h1:W.heap[bs]? = some (.cells #[.int .i64 (k:Int)] 3)) (h2:W.heap[bf]? = some (.cells #[.pointer (some ⟨p,0,none⟩)] 27)) (h3:W.heap[bn]? = some (.cells #[.string (tx s)] 9)) (hr:zAD W W.heap.size 1 A n (body.map bv)) :
  Calls Tryz.prog 80 #[.pointer (some ⟨bo,0,none⟩),.pointer (some ⟨bs,0,none⟩),.pointer (some ⟨bf,0,none⟩),.pointer (some ⟨bn,0,none⟩)] W fun e w' =>e=.returned (.tuple #[]) ∧
   ∃ F',zAZ w' base b (N+1) (zAb fl s (some ⟨body.take k,min q k⟩)) F'∧zAM w' p b d fa ga∧Turn (zAU p b F) W w'∧∀ j,zAU p b F' j→zAU p b F j∨W.heap.size≤j:=by
 obtain ⟨es0,ck0,hmb⟩:=hf.1.heap
 have hne:∀ (j:Nat) (cs:Array Value) (T:TypeId),W.heap[j]? = some (.cells cs T (0,0))→j≠b:=fun j cs T hj e =>by rw [e,hmb] at hj;cases hj
 have hc:∀ (j:Nat) (cs:Array Value) (T:TypeId),W.heap[j]? = some (.cells cs T (0,0))→∀ v:World,(∀ j:Nat,j<W.heap.size→j≠b→v.heap[j]? = W.heap[j]?)→v.heap[j]? = some (.cells cs T (0,0)):=fun j cs T hj v hv =>(hv j (zAJ hj) (hne j cs T hj)).trans hj
 have HCF:Hid (∀ v:World,(∀ j:Nat,j<W.heap.size→j≠b→v.heap[j]? = W.heap[j]?)→v.cell? ⟨bf,0,none⟩=some (.pointer (some ⟨p,0,none⟩))):=fun v hv =>zAA (i:=0) (hc bf _ _ h2 v hv) rfl
 have HCN:Hid (∀ v:World,(∀ j:Nat,j<W.heap.size→j≠b→v.heap[j]? = W.heap[j]?)→v.cell? ⟨bn,0,none⟩=some (.string (tx s))):=fun v hv =>zAA (i:=0) (hc bn _ _ h3 v hv) rfl
 have HCM:Hid (∀ v:World,(∀ j:Nat,j<W.heap.size→j≠b→v.heap[j]? = W.heap[j]?)→v.cell? ⟨p,0,none⟩=some (.map (some b))):=fun v hv =>zAA (i:=0) (hc p _ _ hx v hv) rfl
 have HC0:Hid (∀ v:World,(∀ j:Nat,j<W.heap.size→j≠b→v.heap[j]? = W.heap[j]?)→v.cell? ⟨bo,0,none⟩=some (.slice A n c)):=fun v hv =>zAA (i:=0) (hc bo _ _ h0 v hv) rfl
 have HC1:Hid (∀ v:World,(∀ j:Nat,j<W.heap.size→j≠b→v.heap[j]? = W.heap[j]?)→v.cell? ⟨bo,1,none⟩=some (.int .i64 (q:Int))):=fun v hv =>zAA (i:=1) (hc bo _ _ h0 v hv) rfl
 have HCS:Hid (∀ v:World,(∀ j:Nat,j<W.heap.size→j≠b→v.heap[j]? = W.heap[j]?)→v.cell? ⟨bs,0,none⟩=some (.int .i64 (k:Int))):=fun v hv =>zAA (i:=0) (hc bs _ _ h1 v hv) rfl
 have HX:=yh hx
 have HF:=yh hf
 have HRD:=yh hr
 have HKL:Hid ((body.take k).length=k):=by show _=_;rw [List.length_take];have:=hr.1;simp at this;omega
 clear hx hf h0 h1 h2 h3 hr hmb hne hc
 go_enter Tryz.func80,Tryz.ntmps80
 go_wp2
 refine wp_region_held (S:=fun v =>∀ j:Nat,j<W.heap.size→j≠b→v.heap[j]? = W.heap[j]?) (by kernel_rfl) (show wpAnyH _ _ _ _ _ _ _ _ (W.drew) from ?_)
 have ONLY:Hid (∀ j:Nat,j<W.heap.size→j≠b→W.drew.heap[j]? = W.heap[j]?):=fun _ _ _ =>rfl
 have HD:Hid (Below W.heap.size W W.drew):=(Below.refl _ W).drew
 obtain ⟨W0,hW0⟩:∃ x,x=W.drew:=⟨_,rfl⟩
 rw [← hW0] at ONLY HD ⊢
 clear hW0
 refine zAB 0 (.pointer (some ⟨p,0,none⟩)) rfl (by kernel_rfl) (by kernel_rfl) (by kernel_rfl) (fun _ _ _ h =>h) (by kernel_rfl) ONLY.out (by intro v hv;have z0:=HCF.out v hv;go_simp) ?_
 refine zAB 1 (.pointer (some ⟨p,0,none⟩)) rfl (by kernel_rfl) (by kernel_rfl) (by kernel_rfl) (fun _ _ _ h =>h) (by kernel_rfl) ONLY.out (by intro v hv;go_simp) ?_
 refine zAB 2 (.pointer (some ⟨p,0,none⟩)) rfl (by kernel_rfl) (by kernel_rfl) (by kernel_rfl) (fun _ _ _ h =>h) (by kernel_rfl) ONLY.out (by intro v hv;go_simp) ?_
 refine zAB 3 (.map (some b)) rfl (by kernel_rfl) (by kernel_rfl) (by kernel_rfl) (fun _ _ _ h =>h) (by kernel_rfl) ONLY.out (by intro v hv;have z0:=HCM.out v hv;go_simp) ?_
 refine zAB 4 (.string (tx s)) rfl (by kernel_rfl) (by kernel_rfl) (by kernel_rfl) (fun _ _ _ h =>h) (by kernel_rfl) ONLY.out (by intro v hv;have z0:=HCN.out v hv;go_simp) ?_
 refine zAB 5 (fval A n c q) rfl (by kernel_rfl) (by kernel_rfl) (by kernel_rfl) (fun _ _ _ h =>h) (by kernel_rfl) ONLY.out (by intro v hv;have z0:=HC0.out v hv;have z1:=HC1.out v hv;unfold fval;go_simp) ?_
 refine zAB 6 (.int .i64 (k:Int)) rfl (by kernel_rfl) (by kernel_rfl) (by kernel_rfl) (fun _ _ _ h =>h) (by kernel_rfl) ONLY.out (by intro v hv;have z0:=HCS.out v hv;go_simp) ?_
 refine zAO 7 rfl (by kernel_rfl) (by kernel_rfl) (fun K hK =>?_)
 go_simp
 refine (zMo A n c q k body hn hnc hcm hA hk W0 ((HRD.out.below HD.out).more HD.out.size)).mono ?_
 rintro e w3 ⟨A3,c3,rfl,hA3,ho3,hb3⟩
 have ONLY3:Hid (∀ j:Nat,j<W.heap.size→j≠b→w3.heap[j]? = W.heap[j]?):=fun j h1 h2 =>(hb3.block j (Nat.lt_of_lt_of_le h1 HD.out.size)).trans (ONLY.out j h1 h2)
 have HB3:=yh (HD.out.trans (hb3.mono HD.out.size))
 have HO3:=yh (zAT ho3 HD.out.size)
 have HM3:=yh (HF.out.1.below HB3.out)
 clear ho3 hb3
 refine hK _ _ ONLY3.out ?_
 clear hK K
 refine zAO 8 rfl (by kernel_rfl) (by kernel_rfl) (fun K hK =>?_)
 refine zGT _ _ _ 69 rfl 85 Tryz.underlying69 b N F rfl HM3.out (by unfold maxLen;omega) s (fval A3 k c3 (min q k)) rfl rfl hs ?_
 intro w6 hm6 hg6
 have HALL:=yh (zKO (s:=s) (p:=p) HF.out HX.out HB3.out HO3.out HKL.out hA3 hbase hm6 hg6)
 refine hK _ _ (fun j h1 h2 =>(hg6.block j (Nat.lt_of_lt_of_le h1 HB3.out.size) (fun e =>h2 (Option.some.inj e))).trans (ONLY3.out j h1 h2)) ?_
 clear hK K hm6 hg6
 refine wpAnyH_done (by kernel_rfl) ?_ _
 go_simp
 go_wp2
 go_end0
 exact ⟨rfl,_,HALL.out⟩
def fdel (f:List UInt8→Option Value) (s:List UInt8):List UInt8→Option Value:=fun u =>if u=s then none else f u
theorem zPU {D:DataW Value} {f:List UInt8→Option Value} (h:MapF D f) (s:List UInt8):MapF (D.del (.string s)) (fdel f s):=by
 intro u z
 unfold fdel
 by_cases e:u=s
 ·subst e
  rw [if_pos rfl,atKey_del_same]
 ·rw [if_neg e,atKey_del_other (by intro h2;exact e (by injection h2)),h u z]
theorem zLQ {o:Oper} {a:Act} {w:World} {K:Act→World→Prop} {Q:Exit→Act→World→Prop} (m x:Operand) (t:TypeId) (hop:o.op=Op.call { callee:=Callee.builtin Builtin.delete,args:=#[m,x],argTypes:=#[t,9] }) (e:TypeId) (ht:Tryz.prog.underlying t=some (.map 9 e)) (b N:Nat) (f:List UInt8→Option Value) (hm:a.eval m=.map (some b)) (h:TMap w b N f)
  (s:List UInt8) (hx:a.eval x=.string (tx s)) (hs:s.length≤maxLen)
  (hK:∀ w',TMap w' b N (fdel f s)→w.grownBy w' (some b)→K (a.put o.dst (.tuple #[])) w'):o.wp Tryz.prog a w K Q:=by
 obtain ⟨D,h1,h2⟩:=h
 obtain ⟨w',hrun,r1,r2⟩:=h1.drop xkey ht (zHi hs) o.type
 unfold Oper.wp
 simp [execOp,hop,resolve,invoke,builtin,hm,hx,hrun,Result.andThen]
 exact hK w' ⟨_,r1,zPU h2 s⟩ r2.grown
theorem zIM {w1 w2:World} {base b N:Nat} {fl:List UInt8→Option Fl} {f:List UInt8→Option Value} {s:List UInt8} (h:zAZ w1 base b N fl f) (hm:TMap w2 b N (fdel f s)) (hg:w1.grownBy w2 (some b)):zAZ w2 base b N (zAb fl s none) (fdel f s):=by
 obtain ⟨es,ck,hb⟩:=h.1.heap
 obtain ⟨h1,h2,h3,h4⟩:=h
 refine ⟨hm,fun u hu =>?_,fun u x hx =>?_,fun u u' A n c q A' n' c' q' hne e1 e2 =>?_⟩
 ·unfold fdel
  unfold zAb at hu
  by_cases e:u=s
  ·rw [if_pos e]
  ·rw [if_neg e] at hu ⊢;exact h2 u hu
 ·unfold zAb at hx
  unfold fdel
  by_cases e:u=s
  ·rw [if_pos e] at hx;cases hx
  ·rw [if_neg e] at hx ⊢
   obtain ⟨A,c,e',hA,ho⟩:=h3 u x hx
   exact ⟨A,c,e',hA,ho.kept hg (.inr (zES ho hb))⟩
 ·unfold fdel at e1 e2
  by_cases k1:u=s
  ·rw [if_pos k1] at e1;cases e1
  ·rw [if_neg k1] at e1
   by_cases k2:u'=s
   ·rw [if_pos k2] at e2;cases e2
   ·rw [if_neg k2] at e2
    exact h4 u u' A n c q A' n' c' q' hne e1 e2
theorem zKt {p b k:Nat} {f:List UInt8→Option Value} {s:List UInt8} (h:zAU p b (fdel f s) k):zAU p b f k:=by
 rcases h with h | h | ⟨u,A,n,c,q,e,hk⟩
 ·exact .inl h
 ·exact .inr (.inl h)
 ·unfold fdel at e
  by_cases k1:u=s
  ·rw [if_pos k1] at e;cases e
  ·rw [if_neg k1] at e
   exact .inr (.inr ⟨u,A,n,c,q,e,hk⟩)
theorem zNq (p b N base bf bn:Nat) (d:Bool) (fa ga:Bool×Int) (fl:List UInt8→Option Fl) (FM:List UInt8→Option Value) (s:List UInt8) (hs:s.length≤maxLen) (W:World)
  (hx:zAM W p b d fa ga) (hf:zAZ W base b N fl FM) (h1:W.heap[bf]? = some (.cells #[.pointer (some ⟨p,0,none⟩)] 27)) (h2:W.heap[bn]? = some (.cells #[.string (tx s)] 9)) :
  Calls Tryz.prog 67 #[.pointer (some ⟨bf,0,none⟩),.pointer (some ⟨bn,0,none⟩)] W fun e w' =>e=.returned (.tuple #[]) ∧
   ∃ F',zAZ w' base b N (zAb fl s none) F'∧zAM w' p b d fa ga∧Turn (zAU p b FM) W w'∧∀ j,zAU p b F' j→zAU p b FM j∨W.heap.size≤j:=by
 obtain ⟨es0,ck0,hmb⟩:=hf.1.heap
 have hne:∀ (j:Nat) (cs:Array Value) (T:TypeId),W.heap[j]? = some (.cells cs T (0,0))→j≠b:=fun j cs T hj e =>by rw [e,hmb] at hj;cases hj
 have hc:∀ (j:Nat) (cs:Array Value) (T:TypeId),W.heap[j]? = some (.cells cs T (0,0))→∀ v:World,(∀ j:Nat,j<W.heap.size→j≠b→v.heap[j]? = W.heap[j]?)→v.heap[j]? = some (.cells cs T (0,0)):=fun j cs T hj v hv =>(hv j (zAJ hj) (hne j cs T hj)).trans hj
 have HCF:Hid (∀ v:World,(∀ j:Nat,j<W.heap.size→j≠b→v.heap[j]? = W.heap[j]?)→v.cell? ⟨bf,0,none⟩=some (.pointer (some ⟨p,0,none⟩))):=fun v hv =>zAA (i:=0) (hc bf _ _ h1 v hv) rfl
 have HCN:Hid (∀ v:World,(∀ j:Nat,j<W.heap.size→j≠b→v.heap[j]? = W.heap[j]?)→v.cell? ⟨bn,0,none⟩=some (.string (tx s))):=fun v hv =>zAA (i:=0) (hc bn _ _ h2 v hv) rfl
 have HCM:Hid (∀ v:World,(∀ j:Nat,j<W.heap.size→j≠b→v.heap[j]? = W.heap[j]?)→v.cell? ⟨p,0,none⟩=some (.map (some b))):=fun v hv =>zAA (i:=0) (hc p _ _ hx v hv) rfl
 have HX:=yh hx
 have HF:=yh hf
 have HM:=yh hf.1
 have HPB:=yh (hne p _ _ hx)
 clear hx hf h1 h2 hmb hne hc
 go_enter Tryz.func67,Tryz.ntmps67
 go_wp2
 refine wp_region_held (S:=fun v =>∀ j:Nat,j<W.heap.size→j≠b→v.heap[j]? = W.heap[j]?) (by kernel_rfl) (show wpAnyH _ _ _ _ _ _ _ _ (W.drew) from ?_)
 have ONLY:Hid (∀ j:Nat,j<W.heap.size→j≠b→W.drew.heap[j]? = W.heap[j]?):=fun _ _ _ =>rfl
 have HGD:Hid (W.grownBy W.drew none):=⟨rfl,rfl,rfl,Nat.le_refl _,fun _ _ _ =>rfl⟩
 have HMD:Hid (TMap W.drew b N FM):=HM.out.at_heap rfl
 obtain ⟨v0,hv0⟩:∃ x,x=W.drew:=⟨_,rfl⟩
 rw [← hv0] at ONLY HGD HMD ⊢
 clear hv0
 refine zAB 0 (.pointer (some ⟨p,0,none⟩)) rfl (by kernel_rfl) (by kernel_rfl) (by kernel_rfl) (fun _ _ _ h =>h) (by kernel_rfl) ONLY.out (by intro v hv;have z0:=HCF.out v hv;go_simp) ?_
 refine zAB 1 (.pointer (some ⟨p,0,none⟩)) rfl (by kernel_rfl) (by kernel_rfl) (by kernel_rfl) (fun _ _ _ h =>h) (by kernel_rfl) ONLY.out (by intro v hv;go_simp) ?_
 refine zAB 2 (.pointer (some ⟨p,0,none⟩)) rfl (by kernel_rfl) (by kernel_rfl) (by kernel_rfl) (fun _ _ _ h =>h) (by kernel_rfl) ONLY.out (by intro v hv;go_simp) ?_
 refine zAB 3 (.map (some b)) rfl (by kernel_rfl) (by kernel_rfl) (by kernel_rfl) (fun _ _ _ h =>h) (by kernel_rfl) ONLY.out (by intro v hv;have z0:=HCM.out v hv;go_simp) ?_
 refine zAB 4 (.string (tx s)) rfl (by kernel_rfl) (by kernel_rfl) (by kernel_rfl) (fun _ _ _ h =>h) (by kernel_rfl) ONLY.out (by intro v hv;have z0:=HCN.out v hv;go_simp) ?_
 refine zAO 5 rfl (by kernel_rfl) (by kernel_rfl) (fun K hK =>?_)
 refine zLQ _ _ 69 rfl 85 Tryz.underlying69 b N FM rfl HMD.out s rfl hs ?_
 intro w6 hm6 hg6
 have HM6:=yh hm6
 have HG6:=yh (zBH HGD.out hg6)
 refine hK _ _ (fun j h1 h2 =>(hg6.block j (Nat.lt_of_lt_of_le h1 HGD.out.size) (fun e =>h2 (Option.some.inj e))).trans (ONLY.out j h1 h2)) ?_
 clear hK K hm6 hg6
 refine wpAnyH_done (by kernel_rfl) ?_ _
 go_simp
 go_wp2
 go_end0
 exact ⟨rfl,_,zIM HF.out HM6.out HG6.out,(HG6.out.block p HX.out.lt (fun e =>HPB.out (Option.some.inj e))).trans HX.out,(Turn.refl _ _).grown HG6.out (fun i hi _ =>.inr (.inl (Option.some.inj hi).symm)),fun j hj =>.inl (zKt hj)⟩
theorem zGV {w w1 w2:World} {base b N:Nat} {fl fl1:List UInt8→Option Fl} {f f1:List UInt8→Option Value} {s0 s:List UInt8} {x:Fl} {A:Option Addr} {c q:Nat} (h:zAZ w base b N fl f) (hfx:fl s0=some x) (hF:f s0=some (fval A x.body.length c x.safe)) (h1:zAZ w1 base b N fl1 f1)
  (hsub:∀ u v,u≠s→f1 u=some v→f u=some v∧u≠s0) (ho:w1.ownsRow base 5 1 (.slice A x.body.length c) x.body.length (x.body.map bv)) (hm:TMap w2 b (N+1) (fput f1 s (fval A x.body.length c q))) (hg:w1.grownBy w2 (some b)) :
  zAZ w2 base b (N+1) (zAb fl1 s (some ⟨x.body,q⟩)) (fput f1 s (fval A x.body.length c q)):=by
 obtain ⟨A9,c9,e9,hA9,_⟩:=h.2.2.1 s0 x hfx
 have e9b:A9=A∧c9=c:=by
  rw [hF] at e9
  have e3:=Option.some.inj e9
  unfold fval at e3
  simp only [Value.agg.injEq,Array.mk.injEq,List.cons.injEq,and_true,Value.slice.injEq,true_and] at e3
  exact ⟨e3.1.symm,e3.2.symm⟩
 refine zFg (x:=⟨x.body,q⟩) h1 (fun _ _ _ _ _ _ _ ho' =>ho') (by rw [← e9b.1,← e9b.2];exact hA9) ho (fun u A' n' c' q' hu e =>?_) h1.1.heap hm hg
 obtain ⟨e2,hne⟩:=hsub u _ hu e
 exact h.2.2.2 s0 u A _ c _ A' n' c' q' (Ne.symm hne) hF e2
theorem zRh (p b N base bo bf bn:Nat) (d:Bool) (fa ga:Bool×Int) (fl:List UInt8→Option Fl) (FM:List UInt8→Option Value) (s:List UInt8) (hs:s.length≤maxLen) (x:Fl) (hfx:fl s=some x) (A:Option Addr) (n c q:Nat) (hN:N<1000000) (W:World)
  (hx:zAM W p b d fa ga) (hf:zAZ W base b N fl FM) (hn:n=x.body.length) (hq:q=x.safe) (hF:FM s=some (fval A n c q)) (h0:W.heap[bo]? = some (.cells #[.slice A n c,.int .i64 (q:Int)] 85)) (h1:W.heap[bf]? = some (.cells #[.pointer (some ⟨p,0,none⟩)] 27)) (h2:W.heap[bn]? = some (.cells #[.string (tx s)] 9)) :
  Calls Tryz.prog 81 #[.pointer (some ⟨bo,0,none⟩),.pointer (some ⟨bf,0,none⟩),.pointer (some ⟨bn,0,none⟩)] W fun e w' =>e=.returned (.tuple #[]) ∧
   ∃ F',zAZ w' base b (N+1) (zAb fl s (some ⟨x.body,x.body.length⟩)) F'∧zAM w' p b d fa ga∧Turn (fun k =>zAU p b FM k∨k=bo) W w'∧∀ j,zAU p b F' j→zAU p b FM j∨W.heap.size≤j:=by
 obtain ⟨es0,ck0,hmb⟩:=hf.1.heap
 have hne:∀ (j:Nat) (cs:Array Value) (T:TypeId),W.heap[j]? = some (.cells cs T (0,0))→j≠b:=fun j cs T hj e =>by rw [e,hmb] at hj;cases hj
 have hbob:=hne bo _ _ h0
 have hpbo:p≠bo:=fun e =>by
  have h9:=hx
  unfold zAM at h9
  rw [e,h0] at h9
  have h8:=Option.some.inj h9
  injection h8 with h7 h6
  exact absurd h6 (by decide)
 have hfbo:bf≠bo:=fun e =>by
  rw [e,h0] at h1
  have h8:=Option.some.inj h1
  injection h8 with h7 h6
  exact absurd h6 (by decide)
 have hnbo:bn≠bo:=fun e =>by
  rw [e,h0] at h2
  have h8:=Option.some.inj h2
  injection h8 with h7 h6
  exact absurd h6 (by decide)
 have hrow:=fun u A' n' c' q' (e:FM u=some (fval A' n' c' q')) =>(show Value.ownBlock (.slice A' n' c')=none∨Value.ownBlock (.slice A' n' c')≠some bo from by
  right
  cases hu:fl u with
  | none =>rw [hf.2.1 u hu] at e;cases e
  | some y =>
   obtain ⟨A8,c8,e8,_,ho8⟩:=hf.2.2.1 u y hu
   rw [e8] at e
   have e3:=Option.some.inj e
   unfold fval at e3
   simp only [Value.agg.injEq,Array.mk.injEq,List.cons.injEq,and_true] at e3
   rw [← e3.1]
   exact zAa ho8 h0 (by decide))
 obtain ⟨hs1,hg1⟩:=zAo h0 (i:=1) (.int .i64 (n:Int))
 have fz:=zAC (i:=1) h0
 have k0:=zAA (i:=0) h0 rfl
 have k1:=zAA (i:=1) h0 rfl
 obtain ⟨w3,hw3⟩:∃ x,x=W.setCell ⟨bo,1,none⟩ (.int .i64 (n:Int)):=⟨_,rfl⟩
 rw [← hw3] at hs1 hg1
 have hf3:=hf.kept hg1 (fun e =>hbob (Option.some.inj e).symm) hrow
 have hx3:=hx.kept hg1 (fun e =>hpbo (Option.some.inj e))
 have h13:=(hg1.block bf (zAJ h1) (fun e =>hfbo (Option.some.inj e))).trans h1
 have h23:=(hg1.block bn (zAJ h2) (fun e =>hnbo (Option.some.inj e))).trans h2
 have hc:∀ (j:Nat) (cs:Array Value) (T:TypeId),w3.heap[j]? = some (.cells cs T (0,0))→j≠b→∀ v:World,(∀ j:Nat,j<w3.heap.size→j≠b→v.heap[j]? = w3.heap[j]?)→v.heap[j]? = some (.cells cs T (0,0)):=fun j cs T hj hjb v hv =>(hv j (zAJ hj) hjb).trans hj
 have HCF:Hid (∀ v:World,(∀ j:Nat,j<w3.heap.size→j≠b→v.heap[j]? = w3.heap[j]?)→v.cell? ⟨bf,0,none⟩=some (.pointer (some ⟨p,0,none⟩))):=fun v hv =>zAA (i:=0) (hc bf _ _ h13 (hne bf _ _ h1) v hv) rfl
 have HCN:Hid (∀ v:World,(∀ j:Nat,j<w3.heap.size→j≠b→v.heap[j]? = w3.heap[j]?)→v.cell? ⟨bn,0,none⟩=some (.string (tx s))):=fun v hv =>zAA (i:=0) (hc bn _ _ h23 (hne bn _ _ h2) v hv) rfl
 have HCM:Hid (∀ v:World,(∀ j:Nat,j<w3.heap.size→j≠b→v.heap[j]? = w3.heap[j]?)→v.cell? ⟨p,0,none⟩=some (.map (some b))):=fun v hv =>zAA (i:=0) (hc p _ _ hx3 (hne p _ _ hx) v hv) rfl
 have HC0:Hid (∀ v:World,(∀ j:Nat,j<w3.heap.size→j≠b→v.heap[j]? = w3.heap[j]?)→v.cell? ⟨bo,0,none⟩=some (.slice A n c)):=fun v hv =>zAA (i:=0) (hc bo _ _ hs1 hbob v hv) rfl
 have HC1:Hid (∀ v:World,(∀ j:Nat,j<w3.heap.size→j≠b→v.heap[j]? = w3.heap[j]?)→v.cell? ⟨bo,1,none⟩=some (.int .i64 (n:Int))):=fun v hv =>zAA (i:=1) (hc bo _ _ hs1 hbob v hv) rfl
 have HX:=yh hx3
 have HF0:=yh hf
 have HF:=yh hf3
 have HM:=yh hf3.1
 have HPB:=yh (hne p _ _ hx)
 have HG1:=yh hg1
 have HFV:=yh hF
 have HNN:=yh hn
 have HQQ:=yh hq
 have HW3:=yh hw3
 clear hx hf h0 h1 h2 hmb hne hc hbob hpbo hfbo hnbo hrow hs1 hg1 hf3 hx3 h13 h23 hF hn hq hw3
 go_enter Tryz.func81,Tryz.ntmps81
 go_wp2
 rw [← HW3.out]
 refine wp_region_held (S:=fun v =>∀ j:Nat,j<w3.heap.size→j≠b→v.heap[j]? = w3.heap[j]?) (by kernel_rfl) (show wpAnyH _ _ _ _ _ _ _ _ (w3.drew) from ?_)
 have ONLY:Hid (∀ j:Nat,j<w3.heap.size→j≠b→w3.drew.heap[j]? = w3.heap[j]?):=fun _ _ _ =>rfl
 have HGD:Hid (w3.grownBy w3.drew none):=⟨rfl,rfl,rfl,Nat.le_refl _,fun _ _ _ =>rfl⟩
 have HMD:Hid (TMap w3.drew b N FM):=HM.out.at_heap rfl
 obtain ⟨v0,hv0⟩:∃ x,x=w3.drew:=⟨_,rfl⟩
 rw [← hv0] at ONLY HGD HMD ⊢
 clear hv0
 refine zAB 0 (.pointer (some ⟨p,0,none⟩)) rfl (by kernel_rfl) (by kernel_rfl) (by kernel_rfl) (fun _ _ _ h =>h) (by kernel_rfl) ONLY.out (by intro v hv;have z0:=HCF.out v hv;go_simp) ?_
 refine zAB 1 (.pointer (some ⟨p,0,none⟩)) rfl (by kernel_rfl) (by kernel_rfl) (by kernel_rfl) (fun _ _ _ h =>h) (by kernel_rfl) ONLY.out (by intro v hv;go_simp) ?_
 refine zAB 2 (.pointer (some ⟨p,0,none⟩)) rfl (by kernel_rfl) (by kernel_rfl) (by kernel_rfl) (fun _ _ _ h =>h) (by kernel_rfl) ONLY.out (by intro v hv;go_simp) ?_
 refine zAB 3 (.map (some b)) rfl (by kernel_rfl) (by kernel_rfl) (by kernel_rfl) (fun _ _ _ h =>h) (by kernel_rfl) ONLY.out (by intro v hv;have z0:=HCM.out v hv;go_simp) ?_
 refine zAB 4 (.string (tx s)) rfl (by kernel_rfl) (by kernel_rfl) (by kernel_rfl) (fun _ _ _ h =>h) (by kernel_rfl) ONLY.out (by intro v hv;have z0:=HCN.out v hv;go_simp) ?_
 refine zAB 5 (fval A n c n) rfl (by kernel_rfl) (by kernel_rfl) (by kernel_rfl) (fun _ _ _ h =>h) (by kernel_rfl) ONLY.out (by intro v hv;have z0:=HC0.out v hv;have z1:=HC1.out v hv;unfold fval;go_simp) ?_
 refine zAO 6 rfl (by kernel_rfl) (by kernel_rfl) (fun K hK =>?_)
 refine zGT _ _ _ 69 rfl 85 Tryz.underlying69 b N FM rfl HMD.out (by unfold maxLen;omega) s (fval A n c n) rfl rfl hs ?_
 intro w6 hm6 hg6
 have HM6:=yh hm6
 have HG6:=yh (zBH HGD.out hg6)
 refine hK _ _ (fun j h1 h2 =>(hg6.block j (Nat.lt_of_lt_of_le h1 HGD.out.size) (fun e =>h2 (Option.some.inj e))).trans (ONLY.out j h1 h2)) ?_
 clear hK K hm6 hg6
 refine wpAnyH_done (by kernel_rfl) ?_ _
 go_simp
 go_wp2
 go_end0
 have hn:=HNN.out
 subst hn
 have hq:=HQQ.out
 subst hq
 have hrow3:w3.ownsRow base 5 1 (.slice A x.body.length c) x.body.length (x.body.map bv):=by
  obtain ⟨A9,c9,e9,_,ho9⟩:=HF.out.2.2.1 s x hfx
  rw [HFV.out] at e9
  have e3:=Option.some.inj e9
  unfold fval at e3
  simp only [Value.agg.injEq,Array.mk.injEq,List.cons.injEq,and_true,Value.slice.injEq,true_and] at e3
  rw [e3.1,e3.2]
  exact ho9
 have hfin:=zGV HF.out hfx HFV.out HF.out (fun u v hu e =>⟨e,hu⟩) hrow3 HM6.out HG6.out
 refine ⟨rfl,_,hfin,(HG6.out.block p HX.out.lt (fun e =>HPB.out (Option.some.inj e))).trans HX.out,?_,fun j hj =>?_⟩
 ·exact ((Turn.refl _ _).grown HG1.out (fun i hi _ =>.inr (Option.some.inj hi).symm)).grown HG6.out (fun i hi _ =>.inl (.inr (.inl (Option.some.inj hi).symm)))
 ·rcases zGF hj with h | h
  ·exact .inl h
  ·exact .inl (.inr (.inr ⟨s,A,_,c,_,HFV.out,h⟩))
theorem zNr (p b N base bo bf bn bt:Nat) (d:Bool) (fa ga:Bool×Int) (fl:List UInt8→Option Fl) (FM:List UInt8→Option Value) (r s:List UInt8) (hr:r.length≤maxLen) (hs:s.length≤maxLen) (x:Fl) (hfx:fl r=some x) (A:Option Addr) (n c q:Nat) (hN:N<1000000) (W:World)
  (hx:zAM W p b d fa ga) (hf:zAZ W base b N fl FM) (hn:n=x.body.length) (hq:q=x.safe) (hF:FM r=some (fval A n c q)) (h0:W.heap[bo]? = some (.cells #[.slice A n c,.int .i64 (q:Int)] 85)) (h1:W.heap[bf]? = some (.cells #[.pointer (some ⟨p,0,none⟩)] 27)) (h2:W.heap[bn]? = some (.cells #[.string (tx r)] 9)) (h3:W.heap[bt]? = some (.cells #[.string (tx s)] 9)) :
  Calls Tryz.prog 97 #[.pointer (some ⟨bf,0,none⟩),.pointer (some ⟨bn,0,none⟩),.pointer (some ⟨bo,0,none⟩),.pointer (some ⟨bt,0,none⟩)] W fun e w' =>e=.returned (.tuple #[]) ∧
   ∃ F',zAZ w' base b (N+1) (zAb (zAb fl r none) s (some x)) F'∧zAM w' p b d fa ga∧Turn (zAU p b FM) W w'∧∀ j,zAU p b F' j→zAU p b FM j∨W.heap.size≤j:=by
 obtain ⟨es0,ck0,hmb⟩:=hf.1.heap
 have hne:∀ (j:Nat) (cs:Array Value) (T:TypeId),W.heap[j]? = some (.cells cs T (0,0))→j≠b:=fun j cs T hj e =>by rw [e,hmb] at hj;cases hj
 have hc:∀ (j:Nat) (cs:Array Value) (T:TypeId),W.heap[j]? = some (.cells cs T (0,0))→∀ v:World,(∀ j:Nat,j<W.heap.size→j≠b→v.heap[j]? = W.heap[j]?)→v.heap[j]? = some (.cells cs T (0,0)):=fun j cs T hj v hv =>(hv j (zAJ hj) (hne j cs T hj)).trans hj
 have HCF:Hid (∀ v:World,(∀ j:Nat,j<W.heap.size→j≠b→v.heap[j]? = W.heap[j]?)→v.cell? ⟨bf,0,none⟩=some (.pointer (some ⟨p,0,none⟩))):=fun v hv =>zAA (i:=0) (hc bf _ _ h1 v hv) rfl
 have HCN:Hid (∀ v:World,(∀ j:Nat,j<W.heap.size→j≠b→v.heap[j]? = W.heap[j]?)→v.cell? ⟨bn,0,none⟩=some (.string (tx r))):=fun v hv =>zAA (i:=0) (hc bn _ _ h2 v hv) rfl
 have HCM:Hid (∀ v:World,(∀ j:Nat,j<W.heap.size→j≠b→v.heap[j]? = W.heap[j]?)→v.cell? ⟨p,0,none⟩=some (.map (some b))):=fun v hv =>zAA (i:=0) (hc p _ _ hx v hv) rfl
 have HX:=yh hx
 have HF:=yh hf
 have HM:=yh hf.1
 have HNE:=yh hne
 have HPB:=yh (hne p _ _ hx)
 have HFV:=yh hF
 have HNN:=yh hn
 have HQQ:=yh hq
 have H0:=yh h0
 have H1:=yh h1
 have H3:=yh h3
 clear hx hf h0 h1 h2 h3 hmb hne hc hF hn hq
 go_enter Tryz.func97,Tryz.ntmps97
 go_wp2
 refine wp_region_held (S:=fun v =>∀ j:Nat,j<W.heap.size→j≠b→v.heap[j]? = W.heap[j]?) (by kernel_rfl) (show wpAnyH _ _ _ _ _ _ _ _ (W.drew) from ?_)
 have ONLY:Hid (∀ j:Nat,j<W.heap.size→j≠b→W.drew.heap[j]? = W.heap[j]?):=fun _ _ _ =>rfl
 have HGD:Hid (W.grownBy W.drew none):=⟨rfl,rfl,rfl,Nat.le_refl _,fun _ _ _ =>rfl⟩
 have HMD:Hid (TMap W.drew b N FM):=HM.out.at_heap rfl
 obtain ⟨v0,hv0⟩:∃ x,x=W.drew:=⟨_,rfl⟩
 rw [← hv0] at ONLY HGD HMD ⊢
 clear hv0
 refine zAB 0 (.pointer (some ⟨p,0,none⟩)) rfl (by kernel_rfl) (by kernel_rfl) (by kernel_rfl) (fun _ _ _ h =>h) (by kernel_rfl) ONLY.out (by intro v hv;have z0:=HCF.out v hv;go_simp) ?_
 refine zAB 1 (.pointer (some ⟨p,0,none⟩)) rfl (by kernel_rfl) (by kernel_rfl) (by kernel_rfl) (fun _ _ _ h =>h) (by kernel_rfl) ONLY.out (by intro v hv;go_simp) ?_
 refine zAB 2 (.pointer (some ⟨p,0,none⟩)) rfl (by kernel_rfl) (by kernel_rfl) (by kernel_rfl) (fun _ _ _ h =>h) (by kernel_rfl) ONLY.out (by intro v hv;go_simp) ?_
 refine zAB 3 (.map (some b)) rfl (by kernel_rfl) (by kernel_rfl) (by kernel_rfl) (fun _ _ _ h =>h) (by kernel_rfl) ONLY.out (by intro v hv;have z0:=HCM.out v hv;go_simp) ?_
 refine zAB 4 (.string (tx r)) rfl (by kernel_rfl) (by kernel_rfl) (by kernel_rfl) (fun _ _ _ h =>h) (by kernel_rfl) ONLY.out (by intro v hv;have z0:=HCN.out v hv;go_simp) ?_
 refine zAO 5 rfl (by kernel_rfl) (by kernel_rfl) (fun K hK =>?_)
 refine zLQ _ _ 69 rfl 85 Tryz.underlying69 b N FM rfl HMD.out r rfl hr ?_
 intro w6 hm6 hg6
 have HM6:=yh hm6
 have HG6:=yh (zBH HGD.out hg6)
 refine hK _ _ (fun j h1 h2 =>(hg6.block j (Nat.lt_of_lt_of_le h1 HGD.out.size) (fun e =>h2 (Option.some.inj e))).trans (ONLY.out j h1 h2)) ?_
 clear hK K hm6 hg6
 refine wpAnyH_done (by kernel_rfl) ?_ _
 go_simp
 have HF1:=yh (zIM HF.out HM6.out HG6.out)
 have HGA:=HG6
 have hst:∀ (j:Nat) (cs:Array Value) (T:TypeId),W.heap[j]? = some (.cells cs T (0,0))→w6.heap[j]? = some (.cells cs T (0,0)):=fun j cs T hj =>(HGA.out.block j (zAJ hj) (fun e =>HNE.out j cs T hj (Option.some.inj e))).trans hj
 have hx1:zAM w6 p b d fa ga:=hst p _ _ HX.out
 have hc:∀ (j:Nat) (cs:Array Value) (T:TypeId),w6.heap[j]? = some (.cells cs T (0,0))→j≠b→∀ v:World,(∀ j:Nat,j<w6.heap.size→j≠b→v.heap[j]? = w6.heap[j]?)→v.heap[j]? = some (.cells cs T (0,0)):=fun j cs T hj hjb v hv =>(hv j (zAJ hj) hjb).trans hj
 have HCF1:Hid (∀ v:World,(∀ j:Nat,j<w6.heap.size→j≠b→v.heap[j]? = w6.heap[j]?)→v.cell? ⟨bf,0,none⟩=some (.pointer (some ⟨p,0,none⟩))):=fun v hv =>zAA (i:=0) (hc bf _ _ (hst bf _ _ H1.out) (HNE.out bf _ _ H1.out) v hv) rfl
 have HCT:Hid (∀ v:World,(∀ j:Nat,j<w6.heap.size→j≠b→v.heap[j]? = w6.heap[j]?)→v.cell? ⟨bt,0,none⟩=some (.string (tx s))):=fun v hv =>zAA (i:=0) (hc bt _ _ (hst bt _ _ H3.out) (HNE.out bt _ _ H3.out) v hv) rfl
 have HCM1:Hid (∀ v:World,(∀ j:Nat,j<w6.heap.size→j≠b→v.heap[j]? = w6.heap[j]?)→v.cell? ⟨p,0,none⟩=some (.map (some b))):=fun v hv =>zAA (i:=0) (hc p _ _ hx1 HPB.out v hv) rfl
 have HC0:Hid (∀ v:World,(∀ j:Nat,j<w6.heap.size→j≠b→v.heap[j]? = w6.heap[j]?)→v.cell? ⟨bo,0,none⟩=some (.slice A n c)):=fun v hv =>zAA (i:=0) (hc bo _ _ (hst bo _ _ H0.out) (HNE.out bo _ _ H0.out) v hv) rfl
 have HC1:Hid (∀ v:World,(∀ j:Nat,j<w6.heap.size→j≠b→v.heap[j]? = w6.heap[j]?)→v.cell? ⟨bo,1,none⟩=some (.int .i64 (q:Int))):=fun v hv =>zAA (i:=1) (hc bo _ _ (hst bo _ _ H0.out) (HNE.out bo _ _ H0.out) v hv) rfl
 have HX1:=yh hx1
 have HM:=yh HF1.out.1
 obtain ⟨w1,hw1⟩:∃ y,y=w6:=⟨_,rfl⟩
 subst hw1
 obtain ⟨F0,hF0⟩:∃ y,y=FM:=⟨_,rfl⟩
 subst hF0
 obtain ⟨FM,hFM⟩:∃ y,y=fdel F0 r:=⟨_,rfl⟩
 rw [← hFM] at HF1 HM
 have HFM:=yh hFM
 clear hst hx1 hc hFM HM6 HG6
 go_wp2
 refine wp_region_held (S:=fun v =>∀ j:Nat,j<w1.heap.size→j≠b→v.heap[j]? = w1.heap[j]?) (by kernel_rfl) (show wpAnyH _ _ _ _ _ _ _ _ (w1.drew) from ?_)
 have ONLY:Hid (∀ j:Nat,j<w1.heap.size→j≠b→w1.drew.heap[j]? = w1.heap[j]?):=fun _ _ _ =>rfl
 have HGD:Hid (w1.grownBy w1.drew none):=⟨rfl,rfl,rfl,Nat.le_refl _,fun _ _ _ =>rfl⟩
 have HMD:Hid (TMap w1.drew b N FM):=HM.out.at_heap rfl
 obtain ⟨v0,hv0⟩:∃ x,x=w1.drew:=⟨_,rfl⟩
 rw [← hv0] at ONLY HGD HMD ⊢
 clear hv0
 refine zAB 0 (.pointer (some ⟨p,0,none⟩)) rfl (by kernel_rfl) (by kernel_rfl) (by kernel_rfl) (fun _ _ _ h =>h) (by kernel_rfl) ONLY.out (by intro v hv;have z0:=HCF1.out v hv;go_simp) ?_
 refine zAB 1 (.pointer (some ⟨p,0,none⟩)) rfl (by kernel_rfl) (by kernel_rfl) (by kernel_rfl) (fun _ _ _ h =>h) (by kernel_rfl) ONLY.out (by intro v hv;go_simp) ?_
 refine zAB 2 (.pointer (some ⟨p,0,none⟩)) rfl (by kernel_rfl) (by kernel_rfl) (by kernel_rfl) (fun _ _ _ h =>h) (by kernel_rfl) ONLY.out (by intro v hv;go_simp) ?_
 refine zAB 3 (.map (some b)) rfl (by kernel_rfl) (by kernel_rfl) (by kernel_rfl) (fun _ _ _ h =>h) (by kernel_rfl) ONLY.out (by intro v hv;have z0:=HCM1.out v hv;go_simp) ?_
 refine zAB 4 (.string (tx s)) rfl (by kernel_rfl) (by kernel_rfl) (by kernel_rfl) (fun _ _ _ h =>h) (by kernel_rfl) ONLY.out (by intro v hv;have z0:=HCT.out v hv;go_simp) ?_
 refine zAB 5 (fval A n c q) rfl (by kernel_rfl) (by kernel_rfl) (by kernel_rfl) (fun _ _ _ h =>h) (by kernel_rfl) ONLY.out (by intro v hv;have z0:=HC0.out v hv;have z1:=HC1.out v hv;unfold fval;go_simp) ?_
 refine zAO 6 rfl (by kernel_rfl) (by kernel_rfl) (fun K hK =>?_)
 refine zGT _ _ _ 69 rfl 85 Tryz.underlying69 b N FM rfl HMD.out (by unfold maxLen;omega) s (fval A n c q) rfl rfl hs ?_
 intro w6 hm6 hg6
 have HM6:=yh hm6
 have HG6:=yh (zBH HGD.out hg6)
 refine hK _ _ (fun j h1 h2 =>(hg6.block j (Nat.lt_of_lt_of_le h1 HGD.out.size) (fun e =>h2 (Option.some.inj e))).trans (ONLY.out j h1 h2)) ?_
 clear hK K hm6 hg6
 refine wpAnyH_done (by kernel_rfl) ?_ _
 go_simp
 go_wp2
 go_end0
 have hn:=HNN.out
 subst hn
 have hq:=HQQ.out
 subst hq
 have hrow3:w1.ownsRow base 5 1 (.slice A x.body.length c) x.body.length (x.body.map bv):=by
  obtain ⟨A9,c9,e9,_,ho9⟩:=HF.out.2.2.1 r x hfx
  rw [HFV.out] at e9
  have e3:=Option.some.inj e9
  unfold fval at e3
  simp only [Value.agg.injEq,Array.mk.injEq,List.cons.injEq,and_true,Value.slice.injEq,true_and] at e3
  obtain ⟨es,ck,hmb⟩:=HF.out.1.heap
  rw [e3.1,e3.2]
  exact ho9.kept HGA.out (.inr (zES ho9 hmb))
 have hfin:=zGV HF.out hfx HFV.out HF1.out (fun u v hu e =>by
  rw [HFM.out] at e
  unfold fdel at e
  by_cases k1:u=r
  ·rw [if_pos k1] at e;cases e
  ·rw [if_neg k1] at e;exact ⟨e,k1⟩) hrow3 HM6.out HG6.out
 refine ⟨rfl,_,hfin,(HG6.out.block p HX1.out.lt (fun e =>HPB.out (Option.some.inj e))).trans HX1.out,?_,fun j hj =>?_⟩
 ·exact ((Turn.refl _ _).grown HGA.out (fun i hi _ =>.inr (.inl (Option.some.inj hi).symm))).grown HG6.out (fun i hi _ =>.inr (.inl (Option.some.inj hi).symm))
 ·rcases zGF hj with h | h
  ·rw [HFM.out] at h
   exact .inl (zKt h)
  ·exact .inl (.inr (.inr ⟨r,A,_,c,_,HFV.out,h⟩))
end Go.Proofs.YtekchkfjgofnkaaGreatDoor
