/- Texts of one proof. -/
import Derived.Test.YtfbgmehicmpdiaaGreatDoorMx32
set_option maxRecDepth 100000
set_option maxHeartbeats 8000000
namespace Go.Proofs.YtfbgmehicmpdiaaGreatDoor
open Go.RowKit Go.Maps Go.ChangeMaps Go.WideMaps Go.Sort
def fdel (f:List UInt8→Option Value) (s:List UInt8):List UInt8→Option Value:=fun u =>if u=s then none else f u
theorem zLv {D:DataW Value} {f:List UInt8→Option Value} (h:MapF D f) (s:List UInt8):MapF (D.del (.string s)) (fdel f s):=by
 intro u z
 unfold fdel
 by_cases e:u=s
 ·subst e
  rw [if_pos rfl,atKey_del_same]
 ·rw [if_neg e,atKey_del_other (by intro h2;exact e (by injection h2)),h u z]
theorem zIi {o:Oper} {a:Act} {w:World} {K:Act→World→Prop} {Q:Exit→Act→World→Prop} (m x:Operand) (t:TypeId) (hop:o.op=Op.call { callee:=Callee.builtin Builtin.delete,args:=#[m,x],argTypes:=#[t,9] }) (e:TypeId) (ht:Tryz.prog.underlying t=some (.map 9 e)) (b N:Nat) (f:List UInt8→Option Value) (hm:a.eval m=.map (some b)) (h:TMap w b N f)
  (s:List UInt8) (hx:a.eval x=.string (tx s)) (hs:s.length≤maxLen)
  (hK:∀ w',TMap w' b N (fdel f s)→w.grownBy w' (some b)→K (a.put o.dst (.tuple #[])) w'):o.wp Tryz.prog a w K Q:=by
 obtain ⟨D,h1,h2⟩:=h
 obtain ⟨w',hrun,r1,r2⟩:=h1.drop xkey ht (zFo hs) o.type
 unfold Oper.wp
 simp [execOp,hop,resolve,invoke,builtin,hm,hx,hrun,Result.andThen]
 exact hK w' ⟨_,r1,zLv h2 s⟩ r2.grown
theorem zGP {w1 w2:World} {base b N:Nat} {fl:List UInt8→Option Fl} {f:List UInt8→Option Value} {s:List UInt8} (h:zAT w1 base b N fl f) (hm:TMap w2 b N (fdel f s)) (hg:w1.grownBy w2 (some b)):zAT w2 base b N (zAb fl s none) (fdel f s):=by
 obtain ⟨es,ck,hb⟩:=h.1.heap
 obtain ⟨h1,h2,h3,h4⟩:=h
 refine ⟨hm,fun u hu =>?_,fun u x hx =>?_,fun u u' A n c q A' n' c' q' hne e1 e2 =>?_⟩
 ·unfold fdel
  unfold zAb at hu
  by_cases e:u=s
  ·rw [if_pos e]
  ·rw [if_neg e] at hu ⊢;exact h2 u hu
 ·unfold zAb at hx
  unfold fdel
  by_cases e:u=s
  ·rw [if_pos e] at hx;cases hx
  ·rw [if_neg e] at hx ⊢
   obtain ⟨A,c,e',hA,ho⟩:=h3 u x hx
   exact ⟨A,c,e',hA,ho.kept hg (.inr (zDE ho hb))⟩
 ·unfold fdel at e1 e2
  by_cases k1:u=s
  ·rw [if_pos k1] at e1;cases e1
  ·rw [if_neg k1] at e1
   by_cases k2:u'=s
   ·rw [if_pos k2] at e2;cases e2
   ·rw [if_neg k2] at e2
    exact h4 u u' A n c q A' n' c' q' hne e1 e2
theorem zIM {p b k:Nat} {f:List UInt8→Option Value} {s:List UInt8} (h:zAQ p b (fdel f s) k):zAQ p b f k:=by
 rcases h with h | h | ⟨u,A,n,c,q,e,hk⟩
 ·exact .inl h
 ·exact .inr (.inl h)
 ·unfold fdel at e
  by_cases k1:u=s
  ·rw [if_pos k1] at e;cases e
  ·rw [if_neg k1] at e
   exact .inr (.inr ⟨u,A,n,c,q,e,hk⟩)
theorem zKj (p b N base bf bn:Nat) (d:Bool) (fa ga:Bool×Int) (fl:List UInt8→Option Fl) (FM:List UInt8→Option Value) (s:List UInt8) (hs:s.length≤maxLen) (W:World)
  (hx:zAI W p b d fa ga) (hf:zAT W base b N fl FM) (h1:W.heap[bf]? = some (.cells #[.pointer (some ⟨p,0,none⟩)] 26)) (h2:W.heap[bn]? = some (.cells #[.string (tx s)] 9)) :
  Calls Tryz.prog 65 #[.pointer (some ⟨bf,0,none⟩),.pointer (some ⟨bn,0,none⟩)] W fun e w' =>e=.returned (.tuple #[]) ∧
   ∃ F',zAT w' base b N (zAb fl s none) F'∧zAI w' p b d fa ga∧Turn (zAQ p b FM) W w'∧∀ j,zAQ p b F' j→zAQ p b FM j∨W.heap.size≤j:=by
 obtain ⟨es0,ck0,hmb⟩:=hf.1.heap
 have hne:∀ (j:Nat) (cs:Array Value) (T:TypeId),W.heap[j]? = some (.cells cs T (0,0))→j≠b:=fun j cs T hj e =>by rw [e,hmb] at hj;cases hj
 have hc:∀ (j:Nat) (cs:Array Value) (T:TypeId),W.heap[j]? = some (.cells cs T (0,0))→∀ v:World,(∀ j:Nat,j<W.heap.size→j≠b→v.heap[j]? = W.heap[j]?)→v.heap[j]? = some (.cells cs T (0,0)):=fun j cs T hj v hv =>(hv j (zAR hj) (hne j cs T hj)).trans hj
 have HCF:Hid (∀ v:World,(∀ j:Nat,j<W.heap.size→j≠b→v.heap[j]? = W.heap[j]?)→v.cell? ⟨bf,0,none⟩=some (.pointer (some ⟨p,0,none⟩))):=fun v hv =>zAA (i:=0) (hc bf _ _ h1 v hv) rfl
 have HCN:Hid (∀ v:World,(∀ j:Nat,j<W.heap.size→j≠b→v.heap[j]? = W.heap[j]?)→v.cell? ⟨bn,0,none⟩=some (.string (tx s))):=fun v hv =>zAA (i:=0) (hc bn _ _ h2 v hv) rfl
 have HCM:Hid (∀ v:World,(∀ j:Nat,j<W.heap.size→j≠b→v.heap[j]? = W.heap[j]?)→v.cell? ⟨p,0,none⟩=some (.map (some b))):=fun v hv =>zAA (i:=0) (hc p _ _ hx v hv) rfl
 have HX:=yh hx
 have HF:=yh hf
 have HM:=yh hf.1
 have HPB:=yh (hne p _ _ hx)
 clear hx hf h1 h2 hmb hne hc
 go_enter Tryz.func65,Tryz.ntmps65
 go_wp2
 refine wp_region_held (S:=fun v =>∀ j:Nat,j<W.heap.size→j≠b→v.heap[j]? = W.heap[j]?) (by kernel_rfl) (show wpAnyH _ _ _ _ _ _ _ _ (W.drew) from ?_)
 have ONLY:Hid (∀ j:Nat,j<W.heap.size→j≠b→W.drew.heap[j]? = W.heap[j]?):=fun _ _ _ =>rfl
 have HGD:Hid (W.grownBy W.drew none):=⟨rfl,rfl,rfl,Nat.le_refl _,fun _ _ _ =>rfl⟩
 have HMD:Hid (TMap W.drew b N FM):=HM.out.at_heap rfl
 obtain ⟨v0,hv0⟩:∃ x,x=W.drew:=⟨_,rfl⟩
 rw [← hv0] at ONLY HGD HMD ⊢
 clear hv0
 refine zAB 0 (.pointer (some ⟨p,0,none⟩)) rfl (by kernel_rfl) (by kernel_rfl) (by kernel_rfl) (fun _ _ _ h =>h) (by kernel_rfl) ONLY.out (by intro v hv;have z0:=HCF.out v hv;go_simp) ?_
 refine zAB 1 (.pointer (some ⟨p,0,none⟩)) rfl (by kernel_rfl) (by kernel_rfl) (by kernel_rfl) (fun _ _ _ h =>h) (by kernel_rfl) ONLY.out (by intro v hv;go_simp) ?_
 refine zAB 2 (.pointer (some ⟨p,0,none⟩)) rfl (by kernel_rfl) (by kernel_rfl) (by kernel_rfl) (fun _ _ _ h =>h) (by kernel_rfl) ONLY.out (by intro v hv;go_simp) ?_
 refine zAB 3 (.map (some b)) rfl (by kernel_rfl) (by kernel_rfl) (by kernel_rfl) (fun _ _ _ h =>h) (by kernel_rfl) ONLY.out (by intro v hv;have z0:=HCM.out v hv;go_simp) ?_
 refine zAB 4 (.string (tx s)) rfl (by kernel_rfl) (by kernel_rfl) (by kernel_rfl) (fun _ _ _ h =>h) (by kernel_rfl) ONLY.out (by intro v hv;have z0:=HCN.out v hv;go_simp) ?_
 refine zAL 5 rfl (by kernel_rfl) (by kernel_rfl) (fun K hK =>?_)
 refine zIi _ _ 55 rfl 62 Tryz.underlying55 b N FM rfl HMD.out s rfl hs ?_
 intro w6 hm6 hg6
 have HM6:=yh hm6
 have HG6:=yh (zAu HGD.out hg6)
 refine hK _ _ (fun j h1 h2 =>(hg6.block j (Nat.lt_of_lt_of_le h1 HGD.out.size) (fun e =>h2 (Option.some.inj e))).trans (ONLY.out j h1 h2)) ?_
 clear hK K hm6 hg6
 refine wpAnyH_done (by kernel_rfl) ?_ _
 go_simp
 go_wp2
 go_end0
 exact ⟨rfl,_,zGP HF.out HM6.out HG6.out,(HG6.out.block p HX.out.lt (fun e =>HPB.out (Option.some.inj e))).trans HX.out,(Turn.refl _ _).grown HG6.out (fun i hi _ =>.inr (.inl (Option.some.inj hi).symm)),fun j hj =>.inl (zIM hj)⟩
theorem zEn {w w1 w2:World} {base b N:Nat} {fl fl1:List UInt8→Option Fl} {f f1:List UInt8→Option Value} {s0 s:List UInt8} {x:Fl} {A:Option Addr} {c q:Nat} (h:zAT w base b N fl f) (hfx:fl s0=some x) (hF:f s0=some (fval A x.body.length c x.safe)) (h1:zAT w1 base b N fl1 f1)
  (hsub:∀ u v,u≠s→f1 u=some v→f u=some v∧u≠s0) (ho:w1.ownsRow base 5 1 (.slice A x.body.length c) x.body.length (x.body.map bv)) (hm:TMap w2 b (N+1) (fput f1 s (fval A x.body.length c q))) (hg:w1.grownBy w2 (some b)) :
  zAT w2 base b (N+1) (zAb fl1 s (some ⟨x.body,q⟩)) (fput f1 s (fval A x.body.length c q)):=by
 obtain ⟨A9,c9,e9,hA9,_⟩:=h.2.2.1 s0 x hfx
 have e9b:A9=A∧c9=c:=by
  rw [hF] at e9
  have e3:=Option.some.inj e9
  unfold fval at e3
  simp only [Value.agg.injEq,Array.mk.injEq,List.cons.injEq,and_true,Value.slice.injEq,true_and] at e3
  exact ⟨e3.1.symm,e3.2.symm⟩
 refine zGQ (x:=⟨x.body,q⟩) h1 (fun _ _ _ _ _ _ _ ho' =>ho') (by rw [← e9b.1,← e9b.2];exact hA9) ho (fun u A' n' c' q' hu e =>?_) h1.1.heap hm hg
 obtain ⟨e2,hne⟩:=hsub u _ hu e
 exact h.2.2.2 s0 u A _ c _ A' n' c' q' (Ne.symm hne) hF e2
theorem zNm (p b N base bo bf bn:Nat) (d:Bool) (fa ga:Bool×Int) (fl:List UInt8→Option Fl) (FM:List UInt8→Option Value) (s:List UInt8) (hs:s.length≤maxLen) (x:Fl) (hfx:fl s=some x) (A:Option Addr) (n c q:Nat) (hN:N<1000000) (W:World)
  (hx:zAI W p b d fa ga) (hf:zAT W base b N fl FM) (hn:n=x.body.length) (hq:q=x.safe) (hF:FM s=some (fval A n c q)) (h0:W.heap[bo]? = some (.cells #[.slice A n c,.int .i64 (q:Int)] 62)) (h1:W.heap[bf]? = some (.cells #[.pointer (some ⟨p,0,none⟩)] 26)) (h2:W.heap[bn]? = some (.cells #[.string (tx s)] 9)) :
  Calls Tryz.prog 42 #[.pointer (some ⟨bo,0,none⟩),.pointer (some ⟨bf,0,none⟩),.pointer (some ⟨bn,0,none⟩)] W fun e w' =>e=.returned (.tuple #[]) ∧
   ∃ F',zAT w' base b (N+1) (zAb fl s (some ⟨x.body,x.body.length⟩)) F'∧zAI w' p b d fa ga∧Turn (fun k =>zAQ p b FM k∨k=bo) W w'∧∀ j,zAQ p b F' j→zAQ p b FM j∨W.heap.size≤j:=by
 obtain ⟨es0,ck0,hmb⟩:=hf.1.heap
 have hne:∀ (j:Nat) (cs:Array Value) (T:TypeId),W.heap[j]? = some (.cells cs T (0,0))→j≠b:=fun j cs T hj e =>by rw [e,hmb] at hj;cases hj
 have hbob:=hne bo _ _ h0
 have hpbo:p≠bo:=fun e =>by
  have h9:=hx
  unfold zAI at h9
  rw [e,h0] at h9
  have h8:=Option.some.inj h9
  injection h8 with h7 h6
  exact absurd h6 (by decide)
 have hfbo:bf≠bo:=fun e =>by
  rw [e,h0] at h1
  have h8:=Option.some.inj h1
  injection h8 with h7 h6
  exact absurd h6 (by decide)
 have hnbo:bn≠bo:=fun e =>by
  rw [e,h0] at h2
  have h8:=Option.some.inj h2
  injection h8 with h7 h6
  exact absurd h6 (by decide)
 have hrow:=fun u A' n' c' q' (e:FM u=some (fval A' n' c' q')) =>(show Value.ownBlock (.slice A' n' c')=none∨Value.ownBlock (.slice A' n' c')≠some bo from by
  right
  cases hu:fl u with
  | none =>rw [hf.2.1 u hu] at e;cases e
  | some y =>
   obtain ⟨A8,c8,e8,_,ho8⟩:=hf.2.2.1 u y hu
   rw [e8] at e
   have e3:=Option.some.inj e
   unfold fval at e3
   simp only [Value.agg.injEq,Array.mk.injEq,List.cons.injEq,and_true] at e3
   rw [← e3.1]
   exact zAN ho8 h0 (by decide))
 obtain ⟨hs1,hg1⟩:=zBF h0 (i:=1) (.int .i64 (n:Int))
 have fz:=zAC (i:=1) h0
 have k0:=zAA (i:=0) h0 rfl
 have k1:=zAA (i:=1) h0 rfl
 obtain ⟨w3,hw3⟩:∃ x,x=W.setCell ⟨bo,1,none⟩ (.int .i64 (n:Int)):=⟨_,rfl⟩
 rw [← hw3] at hs1 hg1
 have hf3:=hf.kept hg1 (fun e =>hbob (Option.some.inj e).symm) hrow
 have hx3:=hx.kept hg1 (fun e =>hpbo (Option.some.inj e))
 have h13:=(hg1.block bf (zAR h1) (fun e =>hfbo (Option.some.inj e))).trans h1
 have h23:=(hg1.block bn (zAR h2) (fun e =>hnbo (Option.some.inj e))).trans h2
 have hc:∀ (j:Nat) (cs:Array Value) (T:TypeId),w3.heap[j]? = some (.cells cs T (0,0))→j≠b→∀ v:World,(∀ j:Nat,j<w3.heap.size→j≠b→v.heap[j]? = w3.heap[j]?)→v.heap[j]? = some (.cells cs T (0,0)):=fun j cs T hj hjb v hv =>(hv j (zAR hj) hjb).trans hj
 have HCF:Hid (∀ v:World,(∀ j:Nat,j<w3.heap.size→j≠b→v.heap[j]? = w3.heap[j]?)→v.cell? ⟨bf,0,none⟩=some (.pointer (some ⟨p,0,none⟩))):=fun v hv =>zAA (i:=0) (hc bf _ _ h13 (hne bf _ _ h1) v hv) rfl
 have HCN:Hid (∀ v:World,(∀ j:Nat,j<w3.heap.size→j≠b→v.heap[j]? = w3.heap[j]?)→v.cell? ⟨bn,0,none⟩=some (.string (tx s))):=fun v hv =>zAA (i:=0) (hc bn _ _ h23 (hne bn _ _ h2) v hv) rfl
 have HCM:Hid (∀ v:World,(∀ j:Nat,j<w3.heap.size→j≠b→v.heap[j]? = w3.heap[j]?)→v.cell? ⟨p,0,none⟩=some (.map (some b))):=fun v hv =>zAA (i:=0) (hc p _ _ hx3 (hne p _ _ hx) v hv) rfl
 have HC0:Hid (∀ v:World,(∀ j:Nat,j<w3.heap.size→j≠b→v.heap[j]? = w3.heap[j]?)→v.cell? ⟨bo,0,none⟩=some (.slice A n c)):=fun v hv =>zAA (i:=0) (hc bo _ _ hs1 hbob v hv) rfl
 have HC1:Hid (∀ v:World,(∀ j:Nat,j<w3.heap.size→j≠b→v.heap[j]? = w3.heap[j]?)→v.cell? ⟨bo,1,none⟩=some (.int .i64 (n:Int))):=fun v hv =>zAA (i:=1) (hc bo _ _ hs1 hbob v hv) rfl
 have HX:=yh hx3
 have HF0:=yh hf
 have HF:=yh hf3
 have HM:=yh hf3.1
 have HPB:=yh (hne p _ _ hx)
 have HG1:=yh hg1
 have HFV:=yh hF
 have HNN:=yh hn
 have HQQ:=yh hq
 have HW3:=yh hw3
 clear hx hf h0 h1 h2 hmb hne hc hbob hpbo hfbo hnbo hrow hs1 hg1 hf3 hx3 h13 h23 hF hn hq hw3
 go_enter Tryz.func42,Tryz.ntmps42
 go_wp2
 rw [← HW3.out]
 refine wp_region_held (S:=fun v =>∀ j:Nat,j<w3.heap.size→j≠b→v.heap[j]? = w3.heap[j]?) (by kernel_rfl) (show wpAnyH _ _ _ _ _ _ _ _ (w3.drew) from ?_)
 have ONLY:Hid (∀ j:Nat,j<w3.heap.size→j≠b→w3.drew.heap[j]? = w3.heap[j]?):=fun _ _ _ =>rfl
 have HGD:Hid (w3.grownBy w3.drew none):=⟨rfl,rfl,rfl,Nat.le_refl _,fun _ _ _ =>rfl⟩
 have HMD:Hid (TMap w3.drew b N FM):=HM.out.at_heap rfl
 obtain ⟨v0,hv0⟩:∃ x,x=w3.drew:=⟨_,rfl⟩
 rw [← hv0] at ONLY HGD HMD ⊢
 clear hv0
 refine zAB 0 (.pointer (some ⟨p,0,none⟩)) rfl (by kernel_rfl) (by kernel_rfl) (by kernel_rfl) (fun _ _ _ h =>h) (by kernel_rfl) ONLY.out (by intro v hv;have z0:=HCF.out v hv;go_simp) ?_
 refine zAB 1 (.pointer (some ⟨p,0,none⟩)) rfl (by kernel_rfl) (by kernel_rfl) (by kernel_rfl) (fun _ _ _ h =>h) (by kernel_rfl) ONLY.out (by intro v hv;go_simp) ?_
 refine zAB 2 (.pointer (some ⟨p,0,none⟩)) rfl (by kernel_rfl) (by kernel_rfl) (by kernel_rfl) (fun _ _ _ h =>h) (by kernel_rfl) ONLY.out (by intro v hv;go_simp) ?_
 refine zAB 3 (.map (some b)) rfl (by kernel_rfl) (by kernel_rfl) (by kernel_rfl) (fun _ _ _ h =>h) (by kernel_rfl) ONLY.out (by intro v hv;have z0:=HCM.out v hv;go_simp) ?_
 refine zAB 4 (.string (tx s)) rfl (by kernel_rfl) (by kernel_rfl) (by kernel_rfl) (fun _ _ _ h =>h) (by kernel_rfl) ONLY.out (by intro v hv;have z0:=HCN.out v hv;go_simp) ?_
 refine zAB 5 (fval A n c n) rfl (by kernel_rfl) (by kernel_rfl) (by kernel_rfl) (fun _ _ _ h =>h) (by kernel_rfl) ONLY.out (by intro v hv;have z0:=HC0.out v hv;have z1:=HC1.out v hv;unfold fval;go_simp) ?_
 refine zAL 6 rfl (by kernel_rfl) (by kernel_rfl) (fun K hK =>?_)
 refine zGJ _ _ _ 55 rfl 62 Tryz.underlying55 b N FM rfl HMD.out (by unfold maxLen;omega) s (fval A n c n) rfl rfl hs ?_
 intro w6 hm6 hg6
 have HM6:=yh hm6
 have HG6:=yh (zAu HGD.out hg6)
 refine hK _ _ (fun j h1 h2 =>(hg6.block j (Nat.lt_of_lt_of_le h1 HGD.out.size) (fun e =>h2 (Option.some.inj e))).trans (ONLY.out j h1 h2)) ?_
 clear hK K hm6 hg6
 refine wpAnyH_done (by kernel_rfl) ?_ _
 go_simp
 go_wp2
 go_end0
 have hn:=HNN.out
 subst hn
 have hq:=HQQ.out
 subst hq
 have hrow3:w3.ownsRow base 5 1 (.slice A x.body.length c) x.body.length (x.body.map bv):=by
  obtain ⟨A9,c9,e9,_,ho9⟩:=HF.out.2.2.1 s x hfx
  rw [HFV.out] at e9
  have e3:=Option.some.inj e9
  unfold fval at e3
  simp only [Value.agg.injEq,Array.mk.injEq,List.cons.injEq,and_true,Value.slice.injEq,true_and] at e3
  rw [e3.1,e3.2]
  exact ho9
 have hfin:=zEn HF.out hfx HFV.out HF.out (fun u v hu e =>⟨e,hu⟩) hrow3 HM6.out HG6.out
 refine ⟨rfl,_,hfin,(HG6.out.block p HX.out.lt (fun e =>HPB.out (Option.some.inj e))).trans HX.out,?_,fun j hj =>?_⟩
 ·exact ((Turn.refl _ _).grown HG1.out (fun i hi _ =>.inr (Option.some.inj hi).symm)).grown HG6.out (fun i hi _ =>.inl (.inr (.inl (Option.some.inj hi).symm)))
 ·rcases zFt hj with h | h
  ·exact .inl h
  ·exact .inl (.inr (.inr ⟨s,A,_,c,_,HFV.out,h⟩))
theorem zKk (p b N base bo bf bn bt:Nat) (d:Bool) (fa ga:Bool×Int) (fl:List UInt8→Option Fl) (FM:List UInt8→Option Value) (r s:List UInt8) (hr:r.length≤maxLen) (hs:s.length≤maxLen) (x:Fl) (hfx:fl r=some x) (A:Option Addr) (n c q:Nat) (hN:N<1000000) (W:World)
  (hx:zAI W p b d fa ga) (hf:zAT W base b N fl FM) (hn:n=x.body.length) (hq:q=x.safe) (hF:FM r=some (fval A n c q)) (h0:W.heap[bo]? = some (.cells #[.slice A n c,.int .i64 (q:Int)] 62)) (h1:W.heap[bf]? = some (.cells #[.pointer (some ⟨p,0,none⟩)] 26)) (h2:W.heap[bn]? = some (.cells #[.string (tx r)] 9)) (h3:W.heap[bt]? = some (.cells #[.string (tx s)] 9)) :
  Calls Tryz.prog 50 #[.pointer (some ⟨bf,0,none⟩),.pointer (some ⟨bn,0,none⟩),.pointer (some ⟨bo,0,none⟩),.pointer (some ⟨bt,0,none⟩)] W fun e w' =>e=.returned (.tuple #[]) ∧
   ∃ F',zAT w' base b (N+1) (zAb (zAb fl r none) s (some x)) F'∧zAI w' p b d fa ga∧Turn (zAQ p b FM) W w'∧∀ j,zAQ p b F' j→zAQ p b FM j∨W.heap.size≤j:=by
 obtain ⟨es0,ck0,hmb⟩:=hf.1.heap
 have hne:∀ (j:Nat) (cs:Array Value) (T:TypeId),W.heap[j]? = some (.cells cs T (0,0))→j≠b:=fun j cs T hj e =>by rw [e,hmb] at hj;cases hj
 have hc:∀ (j:Nat) (cs:Array Value) (T:TypeId),W.heap[j]? = some (.cells cs T (0,0))→∀ v:World,(∀ j:Nat,j<W.heap.size→j≠b→v.heap[j]? = W.heap[j]?)→v.heap[j]? = some (.cells cs T (0,0)):=fun j cs T hj v hv =>(hv j (zAR hj) (hne j cs T hj)).trans hj
 have HCF:Hid (∀ v:World,(∀ j:Nat,j<W.heap.size→j≠b→v.heap[j]? = W.heap[j]?)→v.cell? ⟨bf,0,none⟩=some (.pointer (some ⟨p,0,none⟩))):=fun v hv =>zAA (i:=0) (hc bf _ _ h1 v hv) rfl
 have HCN:Hid (∀ v:World,(∀ j:Nat,j<W.heap.size→j≠b→v.heap[j]? = W.heap[j]?)→v.cell? ⟨bn,0,none⟩=some (.string (tx r))):=fun v hv =>zAA (i:=0) (hc bn _ _ h2 v hv) rfl
 have HCM:Hid (∀ v:World,(∀ j:Nat,j<W.heap.size→j≠b→v.heap[j]? = W.heap[j]?)→v.cell? ⟨p,0,none⟩=some (.map (some b))):=fun v hv =>zAA (i:=0) (hc p _ _ hx v hv) rfl
 have HX:=yh hx
 have HF:=yh hf
 have HM:=yh hf.1
 have HNE:=yh hne
 have HPB:=yh (hne p _ _ hx)
 have HFV:=yh hF
 have HNN:=yh hn
 have HQQ:=yh hq
 have H0:=yh h0
 have H1:=yh h1
 have H3:=yh h3
 clear hx hf h0 h1 h2 h3 hmb hne hc hF hn hq
 go_enter Tryz.func50,Tryz.ntmps50
 go_wp2
 refine wp_region_held (S:=fun v =>∀ j:Nat,j<W.heap.size→j≠b→v.heap[j]? = W.heap[j]?) (by kernel_rfl) (show wpAnyH _ _ _ _ _ _ _ _ (W.drew) from ?_)
 have ONLY:Hid (∀ j:Nat,j<W.heap.size→j≠b→W.drew.heap[j]? = W.heap[j]?):=fun _ _ _ =>rfl
 have HGD:Hid (W.grownBy W.drew none):=⟨rfl,rfl,rfl,Nat.le_refl _,fun _ _ _ =>rfl⟩
 have HMD:Hid (TMap W.drew b N FM):=HM.out.at_heap rfl
 obtain ⟨v0,hv0⟩:∃ x,x=W.drew:=⟨_,rfl⟩
 rw [← hv0] at ONLY HGD HMD ⊢
 clear hv0
 refine zAB 0 (.pointer (some ⟨p,0,none⟩)) rfl (by kernel_rfl) (by kernel_rfl) (by kernel_rfl) (fun _ _ _ h =>h) (by kernel_rfl) ONLY.out (by intro v hv;have z0:=HCF.out v hv;go_simp) ?_
 refine zAB 1 (.pointer (some ⟨p,0,none⟩)) rfl (by kernel_rfl) (by kernel_rfl) (by kernel_rfl) (fun _ _ _ h =>h) (by kernel_rfl) ONLY.out (by intro v hv;go_simp) ?_
 refine zAB 2 (.pointer (some ⟨p,0,none⟩)) rfl (by kernel_rfl) (by kernel_rfl) (by kernel_rfl) (fun _ _ _ h =>h) (by kernel_rfl) ONLY.out (by intro v hv;go_simp) ?_
 refine zAB 3 (.map (some b)) rfl (by kernel_rfl) (by kernel_rfl) (by kernel_rfl) (fun _ _ _ h =>h) (by kernel_rfl) ONLY.out (by intro v hv;have z0:=HCM.out v hv;go_simp) ?_
 refine zAB 4 (.string (tx r)) rfl (by kernel_rfl) (by kernel_rfl) (by kernel_rfl) (fun _ _ _ h =>h) (by kernel_rfl) ONLY.out (by intro v hv;have z0:=HCN.out v hv;go_simp) ?_
 refine zAL 5 rfl (by kernel_rfl) (by kernel_rfl) (fun K hK =>?_)
 refine zIi _ _ 55 rfl 62 Tryz.underlying55 b N FM rfl HMD.out r rfl hr ?_
 intro w6 hm6 hg6
 have HM6:=yh hm6
 have HG6:=yh (zAu HGD.out hg6)
 refine hK _ _ (fun j h1 h2 =>(hg6.block j (Nat.lt_of_lt_of_le h1 HGD.out.size) (fun e =>h2 (Option.some.inj e))).trans (ONLY.out j h1 h2)) ?_
 clear hK K hm6 hg6
 refine wpAnyH_done (by kernel_rfl) ?_ _
 go_simp
 have HF1:=yh (zGP HF.out HM6.out HG6.out)
 have HGA:=HG6
 have hst:∀ (j:Nat) (cs:Array Value) (T:TypeId),W.heap[j]? = some (.cells cs T (0,0))→w6.heap[j]? = some (.cells cs T (0,0)):=fun j cs T hj =>(HGA.out.block j (zAR hj) (fun e =>HNE.out j cs T hj (Option.some.inj e))).trans hj
 have hx1:zAI w6 p b d fa ga:=hst p _ _ HX.out
 have hc:∀ (j:Nat) (cs:Array Value) (T:TypeId),w6.heap[j]? = some (.cells cs T (0,0))→j≠b→∀ v:World,(∀ j:Nat,j<w6.heap.size→j≠b→v.heap[j]? = w6.heap[j]?)→v.heap[j]? = some (.cells cs T (0,0)):=fun j cs T hj hjb v hv =>(hv j (zAR hj) hjb).trans hj
 have HCF1:Hid (∀ v:World,(∀ j:Nat,j<w6.heap.size→j≠b→v.heap[j]? = w6.heap[j]?)→v.cell? ⟨bf,0,none⟩=some (.pointer (some ⟨p,0,none⟩))):=fun v hv =>zAA (i:=0) (hc bf _ _ (hst bf _ _ H1.out) (HNE.out bf _ _ H1.out) v hv) rfl
 have HCT:Hid (∀ v:World,(∀ j:Nat,j<w6.heap.size→j≠b→v.heap[j]? = w6.heap[j]?)→v.cell? ⟨bt,0,none⟩=some (.string (tx s))):=fun v hv =>zAA (i:=0) (hc bt _ _ (hst bt _ _ H3.out) (HNE.out bt _ _ H3.out) v hv) rfl
 have HCM1:Hid (∀ v:World,(∀ j:Nat,j<w6.heap.size→j≠b→v.heap[j]? = w6.heap[j]?)→v.cell? ⟨p,0,none⟩=some (.map (some b))):=fun v hv =>zAA (i:=0) (hc p _ _ hx1 HPB.out v hv) rfl
 have HC0:Hid (∀ v:World,(∀ j:Nat,j<w6.heap.size→j≠b→v.heap[j]? = w6.heap[j]?)→v.cell? ⟨bo,0,none⟩=some (.slice A n c)):=fun v hv =>zAA (i:=0) (hc bo _ _ (hst bo _ _ H0.out) (HNE.out bo _ _ H0.out) v hv) rfl
 have HC1:Hid (∀ v:World,(∀ j:Nat,j<w6.heap.size→j≠b→v.heap[j]? = w6.heap[j]?)→v.cell? ⟨bo,1,none⟩=some (.int .i64 (q:Int))):=fun v hv =>zAA (i:=1) (hc bo _ _ (hst bo _ _ H0.out) (HNE.out bo _ _ H0.out) v hv) rfl
 have HX1:=yh hx1
 have HM:=yh HF1.out.1
 obtain ⟨w1,hw1⟩:∃ y,y=w6:=⟨_,rfl⟩
 subst hw1
 obtain ⟨F0,hF0⟩:∃ y,y=FM:=⟨_,rfl⟩
 subst hF0
 obtain ⟨FM,hFM⟩:∃ y,y=fdel F0 r:=⟨_,rfl⟩
 rw [← hFM] at HF1 HM
 have HFM:=yh hFM
 clear hst hx1 hc hFM HM6 HG6
 go_wp2
 refine wp_region_held (S:=fun v =>∀ j:Nat,j<w1.heap.size→j≠b→v.heap[j]? = w1.heap[j]?) (by kernel_rfl) (show wpAnyH _ _ _ _ _ _ _ _ (w1.drew) from ?_)
 have ONLY:Hid (∀ j:Nat,j<w1.heap.size→j≠b→w1.drew.heap[j]? = w1.heap[j]?):=fun _ _ _ =>rfl
 have HGD:Hid (w1.grownBy w1.drew none):=⟨rfl,rfl,rfl,Nat.le_refl _,fun _ _ _ =>rfl⟩
 have HMD:Hid (TMap w1.drew b N FM):=HM.out.at_heap rfl
 obtain ⟨v0,hv0⟩:∃ x,x=w1.drew:=⟨_,rfl⟩
 rw [← hv0] at ONLY HGD HMD ⊢
 clear hv0
 refine zAB 0 (.pointer (some ⟨p,0,none⟩)) rfl (by kernel_rfl) (by kernel_rfl) (by kernel_rfl) (fun _ _ _ h =>h) (by kernel_rfl) ONLY.out (by intro v hv;have z0:=HCF1.out v hv;go_simp) ?_
 refine zAB 1 (.pointer (some ⟨p,0,none⟩)) rfl (by kernel_rfl) (by kernel_rfl) (by kernel_rfl) (fun _ _ _ h =>h) (by kernel_rfl) ONLY.out (by intro v hv;go_simp) ?_
 refine zAB 2 (.pointer (some ⟨p,0,none⟩)) rfl (by kernel_rfl) (by kernel_rfl) (by kernel_rfl) (fun _ _ _ h =>h) (by kernel_rfl) ONLY.out (by intro v hv;go_simp) ?_
 refine zAB 3 (.map (some b)) rfl (by kernel_rfl) (by kernel_rfl) (by kernel_rfl) (fun _ _ _ h =>h) (by kernel_rfl) ONLY.out (by intro v hv;have z0:=HCM1.out v hv;go_simp) ?_
 refine zAB 4 (.string (tx s)) rfl (by kernel_rfl) (by kernel_rfl) (by kernel_rfl) (fun _ _ _ h =>h) (by kernel_rfl) ONLY.out (by intro v hv;have z0:=HCT.out v hv;go_simp) ?_
 refine zAB 5 (fval A n c q) rfl (by kernel_rfl) (by kernel_rfl) (by kernel_rfl) (fun _ _ _ h =>h) (by kernel_rfl) ONLY.out (by intro v hv;have z0:=HC0.out v hv;have z1:=HC1.out v hv;unfold fval;go_simp) ?_
 refine zAL 6 rfl (by kernel_rfl) (by kernel_rfl) (fun K hK =>?_)
 refine zGJ _ _ _ 55 rfl 62 Tryz.underlying55 b N FM rfl HMD.out (by unfold maxLen;omega) s (fval A n c q) rfl rfl hs ?_
 intro w6 hm6 hg6
 have HM6:=yh hm6
 have HG6:=yh (zAu HGD.out hg6)
 refine hK _ _ (fun j h1 h2 =>(hg6.block j (Nat.lt_of_lt_of_le h1 HGD.out.size) (fun e =>h2 (Option.some.inj e))).trans (ONLY.out j h1 h2)) ?_
 clear hK K hm6 hg6
 refine wpAnyH_done (by kernel_rfl) ?_ _
 go_simp
 go_wp2
 go_end0
 have hn:=HNN.out
 subst hn
 have hq:=HQQ.out
 subst hq
 have hrow3:w1.ownsRow base 5 1 (.slice A x.body.length c) x.body.length (x.body.map bv):=by
  obtain ⟨A9,c9,e9,_,ho9⟩:=HF.out.2.2.1 r x hfx
  rw [HFV.out] at e9
  have e3:=Option.some.inj e9
  unfold fval at e3
  simp only [Value.agg.injEq,Array.mk.injEq,List.cons.injEq,and_true,Value.slice.injEq,true_and] at e3
  obtain ⟨es,ck,hmb⟩:=HF.out.1.heap
  rw [e3.1,e3.2]
  exact ho9.kept HGA.out (.inr (zDE ho9 hmb))
 have hfin:=zEn HF.out hfx HFV.out HF1.out (fun u v hu e =>by
  rw [HFM.out] at e
  unfold fdel at e
  by_cases k1:u=r
  ·rw [if_pos k1] at e;cases e
  ·rw [if_neg k1] at e;exact ⟨e,k1⟩) hrow3 HM6.out HG6.out
 refine ⟨rfl,_,hfin,(HG6.out.block p HX1.out.lt (fun e =>HPB.out (Option.some.inj e))).trans HX1.out,?_,fun j hj =>?_⟩
 ·exact ((Turn.refl _ _).grown HGA.out (fun i hi _ =>.inr (.inl (Option.some.inj hi).symm))).grown HG6.out (fun i hi _ =>.inr (.inl (Option.some.inj hi).symm))
 ·rcases zFt hj with h | h
  ·rw [HFM.out] at h
   exact .inl (zIM h)
  ·exact .inl (.inr (.inr ⟨r,A,_,c,_,HFV.out,h⟩))
def zCj (r:Bool) (x y:List UInt8→Option Fl):List UInt8→Option Fl:=match r with | true =>x | false =>y
structure zFF (w w':World) (base p b N N':Nat) (down:Bool) (f g:Bool×Int) (fl':List UInt8→Option Fl) (F F':List UInt8→Option Value):Prop where
 box:zAI w' p b down f g
 files:zAT w' base b N' fl' F'
 room:N'≤N+2
 turn:Turn (zAQ p b F) w w'
 sub:∀ k,zAQ p b F' k→zAQ p b F k∨w.heap.size≤k
theorem zBZ {w w':World} {base p b N:Nat} {down:Bool} {f g:Bool×Int} {fl:List UInt8→Option Fl} {F:List UInt8→Option Value} (h:zAT w base b N fl F) (hx:zAI w p b down f g) (hg:w.grownBy w' (some p)):zAT w' base b N fl F:=by
 obtain ⟨es,ck,hb⟩:=h.1.heap
 obtain ⟨h1,h2,h3,h4⟩:=h
 refine ⟨h1.kept hg (fun e =>?_),h2,fun u x hu =>?_,h4⟩
 ·rw [Option.some.inj e] at hb
  rw [show w.heap[p]? = some _ from hx] at hb
  cases hb
 ·obtain ⟨A,c,e,hA,ho⟩:=h3 u x hu
  exact ⟨A,c,e,hA,ho.kept hg (.inr (zAN ho hx (by decide)))⟩
theorem zKe {w w':World} {B n p b:Nat} {A:Option Addr} {bs:List UInt8} {d:Bool} {f g:Bool×Int} (h:zAD w B 1 A n (bs.map bv)) (hx:zAI w p b d f g) (hg:w.grownBy w' (some p)) (hB:B≤w.heap.size):zAD w' B 1 A n (bs.map bv):=by
 refine ⟨h.1,fun hn =>?_⟩
 obtain ⟨ad,e,hb,hc⟩:=h.2 hn
 have hl:0<bs.length:=by have:=h.1;simp at this;omega
 have hne:ad.block≠p:=fun e2 =>by
  have h0:=hc 0 (bv bs[0]) (by rw [List.getElem?_map,List.getElem?_eq_getElem hl];rfl)
  have ha:ad.add 0=ad:=by unfold Addr.add;simp
  rw [ha] at h0
  unfold zAI at hx
  rw [← e2] at hx
  unfold World.cell? at h0
  rw [hx] at h0
  obtain ⟨f1,f2⟩:=f
  obtain ⟨g1,g2⟩:=g
  revert h0
  generalize ad.off=o
  match o with
  | 0 =>simp [bv]
  | 1 =>simp [bv]
  | 2 =>simp [bv]
  | 3 =>simp [bv]
  | 4 =>simp [bv]
  | 5 =>simp [bv]
  | o+6 =>simp
 exact ⟨ad,e,hb,fun j u hu =>(World.cell?_of_block (by rw [zBJ];exact hg.block ad.block (by omega) (fun e2 =>hne (Option.some.inj e2)))).trans (hc j u hu)⟩
theorem zIm (p b N base B:Nat) (f g:Bool×Int) (hfi:zAK f) (hgi:zAK g) (fl:List UInt8→Option Fl) (F:List UInt8→Option Value) (s:List UInt8) (hs:s.length≤maxLen) (Ab:Option Addr) (nb cb:Nat) (body:List UInt8) (hAb:Ab=none→cb=0) (hN:N<1000000) (hbl:nb≤50000000) (hxl:(zAc fl s).body.length≤1000000000) (w:World) (hbase:base≤w.heap.size)
  (hx:zAI w p b false f g) (hf:zAT w base b N fl F) (hB:B≤w.heap.size) (hr:zAD w B 1 Ab nb (body.map bv)) :
  Calls Tryz.prog 9 #[.pointer (some ⟨p,0,none⟩),.string (tx s),.slice Ab nb cb] w fun e w' =>e=.returned (.int .i64 (zAl f g)) ∧
   ∃ N' F',zFF w w' base p b N N' (zAP g) (zAG f) (zAG g) (zCj (zAm f g true) (zAb fl s (some ⟨(zAc fl s).body++body,(zAc fl s).safe⟩)) fl) F F':=by
 have hpl:=hx.lt
 have HA1:Hid (Below w.heap.size w (w.alloc (.cells #[.pointer (some ⟨p,0,none⟩)] 26))):=(Below.refl _ _).alloc (Nat.le_refl _) _
 have HA2:Hid (Below w.heap.size w ((w.alloc (.cells #[.pointer (some ⟨p,0,none⟩)] 26)).alloc (.cells #[.string (tx s)] 9))):=HA1.out.alloc HA1.out.size _
 have HA3:Hid (Below w.heap.size w (((w.alloc (.cells #[.pointer (some ⟨p,0,none⟩)] 26)).alloc (.cells #[.string (tx s)] 9)).alloc (.cells #[.slice Ab nb cb] 31))):=HA2.out.alloc HA2.out.size _
 have h1:=zAE w (.cells #[.pointer (some ⟨p,0,none⟩)] 26)
 have h2:=zAE (w.alloc (.cells #[.pointer (some ⟨p,0,none⟩)] 26)) (.cells #[.string (tx s)] 9)
 have h3:=zAE ((w.alloc (.cells #[.pointer (some ⟨p,0,none⟩)] 26)).alloc (.cells #[.string (tx s)] 9)) (.cells #[.slice Ab nb cb] 31)
 have z1:(w.alloc (.cells #[.pointer (some ⟨p,0,none⟩)] 26)).heap.size=w.heap.size+1:=by simp
 have z2:((w.alloc (.cells #[.pointer (some ⟨p,0,none⟩)] 26)).alloc (.cells #[.string (tx s)] 9)).heap.size=w.heap.size+2:=by simp
 rw [z1] at h2
 rw [z2] at h3
 have e2:(((w.alloc (.cells #[.pointer (some ⟨p,0,none⟩)] 26)).alloc (.cells #[.string (tx s)] 9)).alloc (.cells #[.slice Ab nb cb] 31)).heap[w.heap.size+1]? = some (.cells #[.string (tx s)] 9):=(Below.heap_alloc _ _ _ (by rw [z2];omega)).trans h2
 have e1:(((w.alloc (.cells #[.pointer (some ⟨p,0,none⟩)] 26)).alloc (.cells #[.string (tx s)] 9)).alloc (.cells #[.slice Ab nb cb] 31)).heap[w.heap.size]? = some (.cells #[.pointer (some ⟨p,0,none⟩)] 26):=(Below.heap_alloc _ _ _ (by rw [z2];omega)).trans ((Below.heap_alloc _ _ _ (by rw [z1];omega)).trans h1)
 obtain ⟨w1,hw1⟩:∃ x,x=((w.alloc (.cells #[.pointer (some ⟨p,0,none⟩)] 26)).alloc (.cells #[.string (tx s)] 9)).alloc (.cells #[.slice Ab nb cb] 31):=⟨_,rfl⟩
 rw [← hw1] at HA3 h3 e1 e2
 have hx1:=hx.below HA3.out
 have hf1:=hf.below HA3.out
 have hr1:=hr.below (HA3.out.mono (by omega))
 have HACT:=yh (zEc p b false f g hfi hgi true 23 (enters_of Tryz.func23 (by kernel_rfl) rfl) #[.pointer (some ⟨w.heap.size,0,none⟩),.pointer (some ⟨w.heap.size+1,0,none⟩),.pointer (some ⟨w.heap.size+2,0,none⟩)] w1 hx1
  (fun W W' =>(∃ F',zAT W' base b (N+1) (zAb fl s (some ⟨(zAc fl s).body++body,(zAc fl s).safe⟩)) F'∧∀ k,zAQ p b F' k→zAQ p b F k∨W.heap.size≤k)∧W'.heap[p]? = W.heap[p]?∧Turn (zAQ p b F) W W')
  (fun d W hW hg =>by
   have hfW:=zBZ hf1 hx1 hg
   refine (zJf p b N base w.heap.size (w.heap.size+1) (w.heap.size+2) B d _ _ fl F s hs Ab nb cb body hAb hN hbl hxl W (by have:=HA3.out.size;have:=hg.size;omega) hW hfW ?_ ?_ ?_ (by have:=HA3.out.size;have:=hg.size;omega) (zKe hr1 hx1 hg (by have:=HA3.out.size;omega))).mono ?_
   ·exact (hg.block _ (zAR e1) (fun e =>by have:=Option.some.inj e;omega)).trans e1
   ·exact (hg.block _ (zAR e2) (fun e =>by have:=Option.some.inj e;omega)).trans e2
   ·exact (hg.block _ (zAR h3) (fun e =>by have:=Option.some.inj e;omega)).trans h3
   ·rintro e W' ⟨he,F',hF',hx',ht',hsub⟩
    exact ⟨he,⟨F',hF',hsub⟩,hx'.trans hW.symm,ht'⟩))
 have q1:=zAA (i:=0) e1 rfl
 have q2:=zAA (i:=1) hx1 rfl
 rw [hw1] at q1 q2
 have HX1:=yh hx1
 have HF1:=yh hf1
 clear hx hf hr hx1 hf1 hr1 h1 h2 h3 e1 e2 z1 z2
 go_enter Tryz.func9,Tryz.ntmps9
 have HACT2:=HACT
 rw [hw1] at HACT2
 have HW1:=yh hw1
 clear hw1 HACT
 go_wp2_with fail
 refine HACT2.out.mono ?_
 rintro e w5 ⟨W,hbx,hg,rfl,hrun,hno⟩
 rw [← HW1.out] at hg
 have HBX:=yh hbx
 have HG:=yh hg
 have HRUN:=yh hrun
 have HNO:=yh hno
 clear hbx hg hrun hno
 go_wp2
 go_ret
 refine ⟨rfl,?_⟩
 have htw:Turn (zAQ p b F) w W:=(Turn.of_below HA3.out).grown HG.out (fun i hi _ =>.inl (Option.some.inj hi).symm)
 have hbx2:zAI W p b (zAP g) (zAG f) (zAG g):=by have h:=HBX.out;rw [Bool.false_or] at h;exact h
 cases hru:zAm f g true with
 | true =>
  obtain ⟨⟨F',hF',hsub⟩,hp',ht'⟩:=HRUN.out hru
  refine ⟨N+1,F',?_⟩
  refine ⟨hp'.trans hbx2,hF',by omega,htw.trans ht' (fun i _ h =>h),fun k hk =>?_⟩
  rcases hsub k hk with h | h
  ·exact .inl h
  ·exact .inr (by have:=HA3.out.size;have:=HG.out.size;omega)
 | false =>
  have e:=HNO.out hru
  subst e
  refine ⟨N,F,?_⟩
  exact ⟨hbx2,zBZ HF1.out HX1.out HG.out,by omega,htw,fun k hk =>.inl hk⟩
end Go.Proofs.YtfbgmehicmpdiaaGreatDoor
