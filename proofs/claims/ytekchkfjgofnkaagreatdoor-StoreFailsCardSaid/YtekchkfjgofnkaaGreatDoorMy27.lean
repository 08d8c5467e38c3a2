/- Texts of one proof. -/
import Derived.Test.YtekchkfjgofnkaaGreatDoorMy25
set_option maxRecDepth 100000
set_option maxHeartbeats 8000000
namespace Go.Proofs.YtekchkfjgofnkaaGreatDoor
open Go.RowKit
def zLT {α:Type} (F:Fence) (n:Nat) (P:Program) (gf:Nat) (lb:Array Value) (encs:α→Array Value) (T:List α→α→World→Prop) (Kp:World→World→Prop) (S:List α→World→Prop) (w:World):Prop :=
 ∀ (l:Nat) (J:List α→World→Prop) (W:World),Below w.heap.size w W→(∀ s A B,J s A→A.grownBy B none→J s B) →
  (∀ pre x V,J pre V→T pre x V→YieldAt F (n - 1) P l (encs x) V fun e V' =>e=.returned (.bool true)∧J (pre++[x]) V'∧Kp V V')→J [] W →
  CallsIn F n P gf (#[.func (.yield l) #[] #[]]++lb) W fun e W' =>(∃ v,e=.returned v)∧∃ xs,S xs W'∧J xs W'
def Own2 (B:Nat) (p:World→Prop):Prop:=∀ (W:World) (l:Nat) (o o':Obj),p W→B≤l→W.heap[l]? = some o→o.isCells=false→p (W.putObj l o')
theorem zLw {α:Type} {F:Fence} {n:Nat} {P:Program} {g:Operand} {ps:Array Tmp} {assign body:Code} {Q:Exit→Act→World→Prop} {a:Act} {w:World}
  (hro:F.round=none) (h1:1≤n) {gf:Nat} {lb:Array Value} (hg:a.eval g=.func (.func gf) #[] lb) (hFg:F.fn gf) (eg:∀ args w,(callFunc gf args).run P w=.ok (.enter gf args) w)
  {encs:α→Array Value} {T:List α→α→World→Prop} {Kp:World→World→Prop} {S:List α→World→Prop} (hseq:zLT F (n - 1) P gf lb encs T Kp S w) (hps:∀ x,(encs x).size=ps.size)
  (hKt:∀ {A B C:World},Kp A B→Kp B C→Kp A C) (hKb:∀ (W:World) (l:Nat) (o o':Obj),w.heap.size≤l→W.heap[l]? = some o→o.isCells=false→Kp W (W.putObj l o'))
  (I:List α→World→Prop) (hT:∀ pre x,Own2 w.heap.size (T pre x)) (hS:∀ xs,Own2 w.heap.size (S xs)) (hI:∀ xs,Own2 w.heap.size (I xs)) (hIg:∀ s A B,I s A→A.grownBy B none→I s B) (h0:I [] w) (a₁:α→Act)
  (hassign:∀ (l:Nat) (x:α) (W:World) (K:Act→World→Prop),K (a₁ x) W →
   assign.wpIn (F.inRound l) (n - 1 - 1) P (Exit.then K (fun _ _ _ =>False)) { tmps:=(ps.zip (encs x)).foldl (fun t (p,v) =>t.setIfInBounds p v) a.tmps,defers:=[] } W)
  (hbody:∀ (l:Nat) (pre:List α) (x:α) (W:World),I pre W→T pre x W→body.wpIn (F.inRound l) (n - 1 - 1) P (fun e _ W' =>e=.normal∧KeepsOthers W W'∧Kp W W'∧I (pre++[x]) W') (a₁ x) W)
  (hdone:∀ (D:Nat) (xs:List α) (W:World),w.heap.size≤D→S xs W→I xs W→W.heap[D]? = some (.deferred (some []))→Q .normal { a with defers:={ target:=.collected D,args:=#[] } :: a.defers } W) :
  (Code.rangeFunc g ps assign body).wpIn F n P Q a w:=by
 refine wpIn_rangeFunc fun fn hfn =>?_
 rw [hro]
 -- the loop's record,and the world with it
 let L:LoopState→Loop:=fun st =>{ state:=st,pending:=none,fn,tmps:=a.tmps,params:=ps,assign,body,defers:=w.heap.size }
 obtain ⟨b,hb⟩:∃ b,b=w.heap.size:=⟨_,rfl⟩
 obtain ⟨Y,hY⟩:∃ Y,Y=(w.alloc (.deferred (some []))).alloc (.loop (L .ready)):=⟨_,rfl⟩
 have hgY:w.grownBy Y none:=by
  rw [hY]
  exact ⟨rfl,rfl,rfl,by simp;omega,fun k hk _ =>(Below.heap_alloc _ _ _ (by simp;omega)).trans (Below.heap_alloc _ _ _ hk)⟩
 have hYl:Y.heap[b+1]? = some (.loop (L .ready)):=by
  have:=World.alloc_heap_new (w.alloc (.deferred (some []))) (.loop (L .ready))
  rw [World.size_alloc,← hY,← hb] at this
  exact this
 have hYd:Y.heap[b]? = some (.deferred (some [])):=by
  rw [hY,hb]
  exact (Below.heap_alloc _ _ _ (by simp)).trans (World.alloc_heap_new w _)
 refine ⟨b+1,[{ target:=.collected b,args:=#[] }],Y,{ target:=.fn (.func gf) lb,args:=#[.func (.yield (b+1)) #[] #[]] },Y,gf,#[.func (.yield (b+1)) #[] #[]]++lb,Y,
  by rw [hY,hb];exact run_enterLoop_outer _ _ _ _ _,by simp only [resolve,hg];simp [go_sem],fun f' hf' =>by simp [Target.leads] at hf';subst hf';exact hFg,by simp [invoke,go_sem,eg],fun _ =>h1,?_⟩
 have hbelow:Below w.heap.size w Y:=⟨hgY.os,hgY.tape,hgY.output,hgY.size,fun k hk =>hgY.block k hk (by simp)⟩
 refine (hseq (b+1) (fun xs W =>I xs W∧W.heap[b+1]? = some (.loop (L .ready))∧W.heap[b]? = some (.deferred (some []))) Y hbelow
  (fun s A B h hg' =>⟨hIg s A B h.1 hg',(hg'.block _ (Array.getElem?_eq_some_iff.1 h.2.1).1 (by simp)).trans h.2.1,(hg'.block _ (Array.getElem?_eq_some_iff.1 h.2.2).1 (by simp)).trans h.2.2⟩) ?_ ⟨hIg _ _ _ h0 hgY,hYl,hYd⟩).mono ?_
 ·-- a round
  rintro pre x V ⟨hi,hl,hd⟩ ht
  have hsz:b+1<V.heap.size:=(Array.getElem?_eq_some_iff.1 hl).1
  obtain ⟨V2,hV2⟩:∃ V2,V2=V.putObj (b+1) (.loop (L .busy)):=⟨_,rfl⟩
  have hl2:V2.heap[b+1]? = some (.loop (L .busy)):=by rw [hV2];exact World.putObj_heap_same hsz
  have hd2:V2.heap[b]? = some (.deferred (some [])):=by rw [hV2];exact (World.putObj_heap_other (by omega)).trans hd
  have hK2:Kp V V2:=by rw [hV2];exact hKb V (b+1) _ _ (by omega) hl rfl
  have hi2:I pre V2:=by rw [hV2];exact hI pre V (b+1) _ _ hi (by omega) hl rfl
  have ht2:T pre x V2:=by rw [hV2];exact hT pre x V (b+1) _ _ ht (by omega) hl rfl
  refine ⟨fn,_,assign,body,run_yield (P:=P) (args:=encs x) hl (hps x),roundIn_of_wpIn hfn (hassign _ x V _ ⟨V2,?_,?_⟩)⟩
  ·rw [hV2];exact run_beginRound hl rfl
  refine wpIn_mono (hbody (b+1) pre x V2 hi2 ht2) ?_
  rintro e a3 V3 ⟨rfl,hko,hkp,hi3⟩
  have hl3:=hko.same _ _ hl2 rfl
  have hd3:=hko.same _ _ hd2 rfl
  have hend:=run_endRound (P:=P) none hl3
  refine ⟨_,_,hend,⟨rfl,⟨hI _ V3 (b+1) _ _ hi3 (by omega) hl3 rfl,World.putObj_heap_same (Array.getElem?_eq_some_iff.1 hl3).1,(World.putObj_heap_other (by omega)).trans hd3⟩,hKt (hKt hK2 hkp) (hKb V3 (b+1) _ _ (by omega) hl3 rfl)⟩⟩
 ·-- behind the loop
  rintro e Z ⟨⟨v,rfl⟩,xs,hs,hi,hl,hd⟩
  have hend:=run_endLoop (P:=P) hl (by simp [L])
  refine ⟨none,_,hend,?_⟩
  exact hdone b xs _ (by omega) (hS xs Z (b+1) _ _ hs (by omega) hl rfl) (hI xs Z (b+1) _ _ hi (by omega) hl rfl) ((World.putObj_heap_other (by omega)).trans hd)
def Own3 (B:Nat) (p:World→Prop):Prop:=∀ (W:World) (l:Nat) (o o':Obj),p W→B≤l→W.heap[l]? = some o→(∃ L,o=.loop L)→p (W.putObj l o')
def zMW {α:Type} (G:World→World→Prop) (F:Fence) (n:Nat) (P:Program) (gf:Nat) (lb:Array Value) (encs:α→Array Value) (T:List α→α→World→Prop) (Kp:World→World→Prop) (S:List α→World→Prop) (w:World):Prop :=
 ∀ (l:Nat) (J:List α→World→Prop) (W:World),Below w.heap.size w W→(∀ s A B,J s A→G A B→J s B) →
  (∀ pre x V,J pre V→T pre x V→YieldAt F (n - 1) P l (encs x) V fun e V' =>e=.returned (.bool true)∧J (pre++[x]) V'∧Kp V V')→J [] W →
  CallsIn F n P gf (#[.func (.yield l) #[] #[]]++lb) W fun e W' =>(∃ v,e=.returned v)∧∃ xs,S xs W'∧J xs W'
open Go.RowKit Go.Shelf
attribute [local go_sem] Oper.semAt_some
def Kp (n0:Nat) (V V':World):Prop :=
 Below n0 V V'∧∀ (k:Nat) (o:Obj),V.heap[k]? = some o→(k<n0∨k=n0+2∨k=n0+3 ∨ ∃ (cs:Array Value) (f:Nat×Nat),o=.cells cs 5 f)→V'.heap[k]? = some o
theorem Kp.trans {n0:Nat} {A B C:World} (h:Kp n0 A B) (k:Kp n0 B C):Kp n0 A C:=⟨h.1.trans k.1,fun i o hi hc =>k.2 i o (h.2 i o hi hc) hc⟩
theorem zRG {n0:Nat} {W W':World} {row:Option Nat} (hg:W.grownBy W' row) (hn0:n0≤W.heap.size)
  (hr:∀ r,row=some r→n0≤r∧r≠n0+2∧r≠n0+3∧∃ (cs:Array Value) (e:TypeId) (f:Nat×Nat),W.heap[r]? = some (.cells cs e f)∧e≠5):Kp n0 W W':=by
 refine ⟨(Below.refl n0 W).grown hg hn0 (fun r e =>(hr r e).1),fun k o hk hc =>?_⟩
 refine (hg.block k (Array.getElem?_eq_some_iff.1 hk).1 (fun e =>?_)).trans hk
 obtain ⟨h1,h2,h3,cs,e2,f,h4,h5⟩:=hr k e.symm
 rw [hk] at h4
 injection h4 with h4
 subst h4
 rcases hc with h | h | h | ⟨cs2,f2,h⟩
 ·omega
 ·exact h2 h
 ·exact h3 h
 ·injection h with _ h
  exact h5 h
theorem zEL {n0:Nat} {W:World} {l:Nat} {o:Obj} (o':Obj) (hl:n0+4≤l) (h:W.heap[l]? = some o) (ho:o.isCells=false):∀ (k:Nat) (p:Obj),W.heap[k]? = some p→(k<n0∨k=n0+2∨k=n0+3∨p.isCells=true)→(W.putObj l o').heap[k]? = some p:=by
 intro k p hk hc
 refine (World.putObj_heap_other (fun e =>?_)).trans hk
 subst e
 rw [h] at hk
 injection hk with hk
 subst hk
 rcases hc with h | h | h | h
 ·omega
 ·omega
 ·omega
 ·rw [ho] at h;cases h
theorem Mine.kp {n0:Nat} {W W':World} {v:Value} {bs:List UInt8} (h:Mine W n0 v bs) (hk:Kp n0 W W'):Mine W' n0 v bs :=
 h.keep fun g cs f _ hg =>(hk.2 g _ hg (.inr (.inr (.inr ⟨cs,f,rfl⟩)))).trans hg.symm
theorem zLn (A:Option Addr) (m c:Nat) (a:Int) (w:World) :
  Calls Tryz.prog 101 #[.slice A m c,.int .i64 a] w fun e w' =>e=.returned (.func (.func 113) #[] #[.pointer (some ⟨w.heap.size+1,0,none⟩),.pointer (some ⟨w.heap.size,0,none⟩)])∧w'=(w.alloc (.cells #[.slice A m c] 59)).alloc (.cells #[.int .i64 a] 3):=by
 refine (callsIn_wide (n:=1)).1 ?_
 refine callsIn_of_wp Tryz.func101 rfl trivial ?_ rfl
 simp only [Tryz.ntmps101,List.size_toArray,List.length_cons,List.length_nil,Nat.reduceAdd,Nat.reduceSub,Array.replicate_succ,Array.replicate_zero,List.push_toArray,List.append_toArray,List.nil_append,List.cons_append]
 gi_wp2
 go_ret
 exact ⟨rfl,rfl⟩
abbrev Got:=Value×(List UInt8×Nat)
def gotv (x:Got):Array Value:=#[x.1,.int .i64 (x.2.2:Int)]
def GotT (n0:Nat) (pre:List Got) (x:Got) (W:World):Prop:=pre.length<1073741824∧Mine W n0 x.1 x.2.1
def GotS (n0:Nat) (F:List (List UInt8×Nat)) (xs:List Got) (W:World):Prop:=xs.map (·.2)=F∧∀ x ∈ xs,Mine W n0 x.1 x.2.1
theorem zJR (n n0:Nat) (hn:1≤n) (A:Option Addr) (m c a0:Nat) (bs:List UInt8) (hc:m≤c) (hm:m≤1073741824) (ha0:a0≤m) (F:List (List UInt8×Nat)) (hF:F=frun (m+1) a0 bs)
  (ws:World) (hs:ws.heap.size=n0) (hl:Laid ws) (hr:zAD ws n0 1 A m (bs.map bv)) (w:World) (hb0:Below n0 ws w) (hx1:w.heap[n0+2]? = some (.cells #[.slice A m c] 59)) (hx2:w.heap[n0+3]? = some (.cells #[.int .i64 (a0:Int)] 3)) :
  zLT Fence.wide n Tryz.prog 113 #[.pointer (some ⟨n0+3,0,none⟩),.pointer (some ⟨n0+2,0,none⟩)] gotv (GotT n0) (Kp n0) (GotS n0 F) w:=by
 intro l J W hW hJ hY h0
 have hbl:bs.length=m:=by have:=hr.1;simpa using this
 have hw1:n0+2<w.heap.size:=(Array.getElem?_eq_some_iff.1 hx1).1
 have hw2:n0+3<w.heap.size:=(Array.getElem?_eq_some_iff.1 hx2).1
 have HX1:=yh hx1
 have HX2:=yh hx2
 have HF:=yh hF
 have HL:=yh hl
 have HR:=yh hr
 have HBL:=yh hbl
 have HB0:=yh hb0
 have HS:=yh hs
 have hWs:Below n0 ws W:=hb0.trans (hW.mono (by omega))
 have hW1:W.heap[n0+2]? = some (.cells #[.slice A m c] 59):=(hW.block _ hw1).trans hx1
 have hW2:W.heap[n0+3]? = some (.cells #[.int .i64 (a0:Int)] 3):=(hW.block _ hw2).trans hx2
 have hcell2:W.cell? ⟨n0+3,0,none⟩=some (.int .i64 (a0:Int)):=by simp [World.cell?,hW2]
 clear hx1 hx2 hF hl hr hbl hb0 hs
 refine callsIn_of_wp Tryz.func113 rfl trivial ?_ rfl
 simp only [Tryz.ntmps113,List.size_toArray,List.length_cons,List.length_nil,Nat.reduceAdd,Nat.reduceSub,Array.replicate_succ,Array.replicate_zero,List.push_toArray,List.append_toArray,List.nil_append,List.cons_append]
 gi_wp2
 gi_loopw [4] (fun p wr =>∃ (D:List Got) (a k:Nat),p=.int .i64 (a:Int)∧a≤m∧m - a<k∧D.length≤a∧F=D.map (·.2)++frun k a bs∧J D wr∧(∀ x ∈ D,Mine wr n0 x.1 x.2.1)∧Below n0 ws wr ∧
   wr.heap[n0+2]? = some (.cells #[.slice A m c] 59)∧n0+3<wr.heap.size)
  (fun p wr =>m - (intOf p).toNat)
 case atStart =>
  exact ⟨[],a0,m+1,rfl,ha0,by omega,by simp,HF.out,h0,by simp,hWs,hW1,(Array.getElem?_eq_some_iff.1 hW2).1⟩
 case round =>
  obtain ⟨D,a,k,rfl,ha,hk,hD,hFD,hJD,hM,hb,hbox,hsz⟩:=hrel
  obtain ⟨k,rfl⟩:∃ k',k=k'+1:=⟨k - 1,by omega⟩
  obtain ⟨p,nx,er,hg⟩:∃ p nx er,fg a bs=(p,nx,er):=⟨_,_,_,rfl⟩
  have hcell:wr.cell? ⟨n0+2,0,none⟩=some (.slice A m c):=by simp [World.cell?,hbox]
  have hld:Laid wr:=HL.out.below (by rw [HS.out];exact hb)
  have hget:=zOo A m c a bs hc hm ha wr hld ((HR.out.below hb).more (by omega))
  rw [hg] at hget
  have HGET:=yh hget
  have HHG:=yh hg
  have HFD:=yh hFD
  have HM:=yh hM
  clear hg hget hFD hld hM
  by_cases her:er=0
  ·subst her
   have h4:=zQU HHG.out
   rw [HBL.out] at h4
   have hfit:D.length<1073741824:=by omega
   have HY:Hid (∀ (w1:World) (v:Value),Below wr.heap.size wr w1→Mine w1 wr.heap.size v p→YieldAt Fence.wide (n - 1) Tryz.prog l #[v,.int .i64 (nx:Int)] w1 fun e V' =>e=.returned (.bool true)∧J (D++[(v,(p,nx))]) V'∧Kp n0 w1 V'):=fun w1 v hb1 hm1 =>
    hY D (v,(p,nx)) w1 (hJ D wr w1 hJD ⟨hb1.os,hb1.tape,hb1.output,hb1.size,fun k hk _ =>hb1.block k hk⟩) ⟨hfit,hm1.less (by omega)⟩
   gi_wp2_with (refine ⟨trivial,?_⟩;gi_at_call 114;refine (callsIn_wide.2 HGET.out).mono ?_;rintro e w1 ⟨v,rfl,hm1,hb1⟩;obtain ⟨fn,tmps,assign,body,hy,hR⟩:=HY.out w1 v hb1 hm1)
   refine hR.mono ?_
   rintro e W3 ⟨rfl,hJ3,hk3⟩
   gi_wp2
   go_roundw
   case rel =>
    have hbelow:Below n0 ws W3:=(hb.trans (hb1.mono (by omega))).trans hk3.1
    have hbx:w1.heap[n0+2]? = some (.cells #[.slice A m c] 59):=(hb1.block _ (by omega)).trans hbox
    refine ⟨D++[(v,(p,nx))],nx,k,by go_num,by omega,by omega,by simp;omega,by rw [HFD.out,zQu HHG.out];simp,hJ3,?_,hbelow,hk3.2 _ _ hbx (.inr (.inl rfl)),by have:=hk3.1.size;have:=hb1.size;omega⟩
    intro x hx
    rcases List.mem_append.1 hx with hx | hx
    ·exact ((HM.out x hx).below hb1).kp hk3
    ·obtain rfl:=List.mem_singleton.1 hx
     exact (hm1.less (by omega)).kp hk3
   case measure =>simp [intOf];omega
  ·have hre:((er:Int) != 0)=true:=by rw [bne_iff_ne];omega
   have HE:=yh her
   clear her
   gi_wp2_with (refine ⟨trivial,?_⟩;gi_at_call 114;refine (callsIn_wide.2 HGET.out).mono ?_;rintro e w1 ⟨v,rfl,hm1,hb1⟩)
   refine ⟨fun _ h =>(by cases h),?_⟩
   gi_wp2
   refine bodyPost_ret (results_none rfl _ _ _) rfl ?_
   have hF2:F=D.map (·.2):=by rw [HFD.out,zIT (by rw [HHG.out];exact HE.out),List.append_nil]
   exact ⟨⟨_,rfl⟩,D,⟨hF2.symm,fun x hx =>(HM.out x hx).below hb1⟩,hJ D wr w1 hJD ⟨hb1.os,hb1.tape,hb1.output,hb1.size,fun k hk _ =>hb1.block k hk⟩⟩
def TabO (o:Obj):Prop:=(∃ cs f,o=.cells cs 9 f)∨(∃ cs f,o=.cells cs 170 f) ∨ ∃ es c,o=.map es c
def DepO (o:Obj):Prop:=∃ cs f,o=.cells cs 95 f
def GK (n1:Nat) (A B:World):Prop:=B.os=A.os∧B.tape=A.tape∧B.output=A.output∧A.heap.size≤B.heap.size∧∀ (k:Nat) (o:Obj),A.heap[k]? = some o→(k<n1 ∨ ¬ TabO o)→B.heap[k]? = some o
theorem zFC (n1:Nat) {A B:World} (h:A.grownBy B none):GK n1 A B:=⟨h.os,h.tape,h.output,h.size,fun k _ hk _ =>(h.block k (zAg hk) (by simp)).trans hk⟩
theorem zPA {n1:Nat} {A B:World} (h:Below A.heap.size A B):GK n1 A B:=⟨h.os,h.tape,h.output,h.size,fun k _ hk _ =>(h.block k (zAg hk)).trans hk⟩
theorem zLA {n1:Nat} {S:Nat→Prop} {A B:World} (h:Turn S A B) (hs:∀ k,S k→n1≤k∧∃ o,A.heap[k]? = some o∧TabO o):GK n1 A B :=
 ⟨h.1,h.2.1,h.2.2.1,h.2.2.2.1,fun k o hk hc =>(h.2.2.2.2 k (zAg hk) (fun hS =>by
  obtain ⟨h1,o',h2,h3⟩:=hs k hS
  rw [hk] at h2
  obtain rfl:=Option.some.inj h2
  rcases hc with h4 | h4
  ·omega
  ·exact h4 h3)).trans hk⟩
theorem zPB (n1:Nat) (A B:World) (h:GK n1 A B) (k:Nat) (o:Obj) (hk:A.heap[k]? = some o) (hc:(∃ L,o=.loop L) ∨ ∃ L,o=.deferred L):B.heap[k]? = some o:=by
 refine h.2.2.2.2 k o hk (.inr fun ht =>?_)
 rcases hc with ⟨L,rfl⟩ | ⟨L,rfl⟩ <;> rcases ht with ⟨_,_,h1⟩ | ⟨_,_,h1⟩ | ⟨_,_,h1⟩ <;> cases h1
def KpR (n0 n1 bf:Nat) (V V':World):Prop:=Below n0 V V'∧∀ (k:Nat) (o:Obj),V.heap[k]? = some o→((k<n1∧k≠bf)∨TabO o∨DepO o)→V'.heap[k]? = some o
theorem KpR.trans {n0 n1 bf:Nat} {A B C:World} (h:KpR n0 n1 bf A B) (k:KpR n0 n1 bf B C):KpR n0 n1 bf A C:=⟨h.1.trans k.1,fun i o hi hc =>k.2 i o (h.2 i o hi hc) hc⟩
theorem zHq {n0 n1 bf:Nat} (W:World) (l:Nat) (o o':Obj) (hn:n0≤n1) (hl:n1≤l) (ho:W.heap[l]? = some o) (hc:∃ L,o=.loop L):KpR n0 n1 bf W (W.putObj l o'):=by
 obtain ⟨L,rfl⟩:=hc
 refine ⟨(Below.refl n0 W).grown (grownBy_putObj' W l o') (by have:=zAg ho;omega) (fun k e =>by cases e;omega),fun k p hk hcs =>(World.putObj_heap_other (fun e =>?_)).trans hk⟩
 subst e
 rw [ho] at hk
 obtain rfl:=Option.some.inj hk
 rcases hcs with h1 | h1 | h1
 ·omega
 ·rcases h1 with ⟨_,_,h1⟩ | ⟨_,_,h1⟩ | ⟨_,_,h1⟩ <;> cases h1
 ·obtain ⟨_,_,h1⟩:=h1;cases h1
theorem zIk {w:World} {S:Nat→Prop} {b N:Nat} {l:List (List UInt8)} (h:Tab w S b N l):∃ S2:Nat→Prop,Tab w S2 b N l∧∀ k,S2 k→S k∧∃ o,w.heap[k]? = some o∧TabO o:=by
 obtain ⟨L,c,mv,h1,h2,h3,h4,h5,h6⟩:=h
 refine ⟨fun k =>k=b∨(Value.slice L l.length c).ownBlock=some k∨(mv=some k∧S k∧∃ o,w.heap[k]? = some o∧TabO o),⟨L,c,mv,h1,.inl rfl,h3,fun g hg =>.inr (.inl hg),?_,h6⟩,fun k hk =>?_⟩
 ·rcases h5 with h5 | ⟨mb,D,e,hs,hm,hn⟩
  ·exact .inl h5
  ·refine .inr ⟨mb,D,e,.inr (.inr ⟨e,hs,?_⟩),hm,hn⟩
   obtain ⟨es,clock,hb,r⟩:=hm
   exact ⟨_,hb,.inr (.inr ⟨_,_,rfl⟩)⟩
 ·rcases hk with rfl | hk | ⟨_,hs,ho⟩
  ·exact ⟨h2,_,h1,.inr (.inl ⟨_,_,rfl⟩)⟩
  ·refine ⟨h4 k hk,?_⟩
   rcases h3.2 with ⟨e,_⟩ | ⟨g,cap,cur,e,_,hh,_⟩
   ·rw [e] at hk;simp [Value.ownBlock] at hk
   ·rw [e] at hk
    obtain rfl:g=k:=by simpa [Value.ownBlock] using hk
    exact ⟨_,hh,.inl ⟨_,_,rfl⟩⟩
  ·exact ⟨hs,ho⟩
abbrev Hnd:=Rw×Nat
def hndv (x:Hnd):Array Value:=#[.agg #[.int .i64 x.1.r.kind,.string (tx x.1.r.target),.int .u64 x.1.r.rule,.slice x.1.A x.1.n x.1.c,.int .u64 x.1.r.out,.int .u64 x.1.r.time,.string (tx x.1.r.tag)],.int .i64 (x.2:Int)]
def sayH (x:Hnd):Rdd:=(x.1.r,x.1.l,x.2)
def zCJ (n1:Nat) (x:Hnd) (W:World):Prop:=W.ownsRow n1 95 3 (.slice x.1.A x.1.n x.1.c) x.1.n (dps x.1.l)
def HndT (n1:Nat) (xs:List Rdd) (pre:List Hnd) (x:Hnd) (W:World):Prop:=zCJ n1 x W∧(pre++[x]).map sayH=xs.take (pre.length+1)
def HndS (n1:Nat) (xs:List Rdd) (ys:List Hnd) (W:World):Prop:=ys.map sayH=xs∧∀ y ∈ ys,zCJ n1 y W
theorem zCJ.keep {n1:Nat} {x:Hnd} {W W':World} (h:zCJ n1 x W) (hk:∀ (k:Nat) (o:Obj),W.heap[k]? = some o→DepO o→W'.heap[k]? = some o):zCJ n1 x W':=by
 refine zAR h fun g hg =>?_
 rcases h.2 with ⟨e,_⟩ | ⟨g2,cap,cur,e,_,hh,_⟩
 ·rw [e] at hg;simp [Value.ownBlock] at hg
 ·rw [e] at hg
  obtain rfl:g2=g:=by simpa [Value.ownBlock] using hg
  exact (hk _ _ hh ⟨_,_,rfl⟩).trans hh.symm
theorem zCJ.gk {n1:Nat} {x:Hnd} {A B:World} (h:zCJ n1 x A) (hg:GK n1 A B):zCJ n1 x B :=
 h.keep fun k o hk hd =>hg.2.2.2.2 k o hk (.inr fun ht =>by
  obtain ⟨cs,f,rfl⟩:=hd
  rcases ht with ⟨_,_,h1⟩ | ⟨_,_,h1⟩ | ⟨_,_,h1⟩
  ·injection h1 with _ h2;revert h2;decide
  ·injection h1 with _ h2;revert h2;decide
  ·cases h1)
theorem zCJ.kp {n0 n1 bf:Nat} {x:Hnd} {A B:World} (h:zCJ n1 x A) (hg:KpR n0 n1 bf A B):zCJ n1 x B:=h.keep fun k o hk hd =>hg.2 k o hk (.inr (.inr hd))
theorem zRn {n0 n1 bf:Nat} {A B:World} (h:KpR n0 n1 bf A B) (_hn:n1≤A.heap.size):Turn (fun k =>k=bf∨n1≤k) A B :=
 ⟨h.1.os,h.1.tape,h.1.output,h.1.size,fun k hk hs =>by
  have h1:k≠bf:=fun e =>hs (.inl e)
  have h2:k<n1:=by
   rcases Nat.lt_or_ge k n1 with h3 | h3
   ·exact h3
   ·exact absurd (.inr h3) hs
  have ho:A.heap[k]? = some A.heap[k]:=Array.getElem?_eq_getElem hk
  exact (h.2 k _ ho (.inl ⟨h2,h1⟩)).trans ho.symm⟩
theorem zIq (n n0 n1 bf b1 b2:Nat) (hn:1≤n) (ver:Int) (ps:List (List UInt8)) (xs:List Rdd) (hxl:xs.length≤2000) (P:Option Addr) (nP cP:Nat)
  (hup:∀ (i:Nat) (x:Rdd),xs[i]? = some x→atO (xs.take i)<x.2.2∧x.2.2≤ps.length∧UP ver (tbO ver (xs.take i)) ps (atO (xs.take i):Int) x.1 x.2.1 (x.2.2:Int) 0 (tabT ver (tbO ver (xs.take i)) x.1 x.2.1))
  (e9:Int) (he9:e9≠0) (hstop:UP ver (tbO ver xs) ps (atO xs:Int) rc0 [] 0 e9 (tbO ver xs))
  (w:World) (hn1:w.heap.size=n1) (hb1:w.heap[b1]? = some (.cells #[.int .i64 ver] 3 (0,0))) (hb2:w.heap[b2]? = some (.cells #[.slice P nP cP] 123 (0,0))) (hbf1:b1≠bf) (hbf2:b2≠bf)
  (hP:PlsT w n1 (fun k =>k=bf∨n1≤k) P nP cP ps) (hPc:P=none→cP=0) :
  zMW (GK n1) Fence.wide n Tryz.prog 102 #[.pointer (some ⟨b1,0,none⟩),.pointer (some ⟨b2,0,none⟩)] hndv (HndT n1 xs) (KpR n0 n1 bf) (HndS n1 xs) w:=by
 intro l J W hW hJ hY h0
 have hw1:b1<n1:=by have:=zAg hb1;omega
 have hw2:b2<n1:=by have:=zAg hb2;omega
 have HUP:=yh hup
 have HSTOP:=yh hstop
 have HB1:=yh hb1
 have HB2:=yh hb2
 have HP:=yh hP
 have HPC:=yh hPc
 have HXL:=yh hxl
 have HN1:=yh hn1
 have HBF1:=yh hbf1
 have HBF2:=yh hbf2
 have HJ:=yh hJ
 have HY:=yh hY
 have hTW:Turn (fun k =>k=bf∨n1≤k) w W:=Turn.of_below hW
 have HWS:Hid (n1≤W.heap.size):=by have:=hW.size;show _≤_;omega
 have HTW:=yh hTW
 clear hup hstop hb1 hb2 hP hPc hxl hJ hY hTW hn1 hbf1 hbf2
 refine callsIn_of_wp Tryz.func102 rfl trivial ?_ rfl
 simp only [Tryz.ntmps102,List.size_toArray,List.length_cons,List.length_nil,Nat.reduceAdd,Nat.reduceSub,Array.replicate_succ,Array.replicate_zero,List.push_toArray,List.append_toArray,List.nil_append,List.cons_append]
 gi_wp2_with (refine ⟨trivial,?_⟩;gi_at_call 94;refine (callsIn_wide.2 (zGD none 0 0 W.heap.size [] (by omega) (by simp) W (Nat.le_refl _) ⟨by simp,fun h =>absurd h (by omega)⟩)).mono ?_;rintro e w1 ⟨rfl,ht1,hb1⟩)
 obtain ⟨S1,ht2,hs2⟩:=zIk ht1
 have HS2:Hid (∀ k,S1 k→n1≤k∧∃ o,w1.heap[k]? = some o∧TabO o):=fun k hk =>⟨Nat.le_trans HWS.out (hs2 k hk).1,(hs2 k hk).2⟩
 have HT2:=yh ht2
 have HJ1:=yh (HJ.out _ _ _ h0 (zPA (n1:=n1) hb1))
 have HTW1:=yh (HTW.out.trans (Turn.of_below (S:=fun k =>k=bf∨n1≤k) hb1) (fun _ _ h =>h))
 obtain ⟨bt,hbt⟩:∃ bt,bt=W.heap.size:=⟨_,rfl⟩
 rw [← hbt] at HT2
 rw [← hbt]
 clear ht1 ht2 hs2 hb1 h0 hbt
 gi_wp2
 gi_loopw [5] (fun v5 wr =>∃ (D:List Hnd) (i N:Nat) (S:Nat→Prop),v5=.int .i64 (atO (xs.take i):Int)∧i≤xs.length∧D.map sayH=xs.take i∧J D wr∧(∀ y ∈ D,zCJ n1 y wr)∧N≤100036 * i∧Tab wr S bt N (tbO ver (xs.take i))∧(∀ k,S k→n1≤k∧∃ o,wr.heap[k]? = some o∧TabO o)∧Turn (fun k =>k=bf∨n1≤k) w wr)
  (fun v5 wr =>ps.length - (intOf v5).toNat)
 case atStart =>
  exact ⟨[],0,0,S1,rfl,Nat.zero_le _,rfl,HJ1.out,(fun y hy =>by cases hy),Nat.le_refl _,HT2.out,HS2.out,HTW1.out⟩
 case round =>
  obtain ⟨D,i,N,S,rfl,hin,hD,hJD,hdp,hN,htab,hsS,htw⟩:=hrel
  have HD:=yh hD
  have HJD:=yh hJD
  have HDP:=yh hdp
  have HN:=yh hN
  have HTAB:=yh htab
  have HSS:=yh hsS
  have HTWr:=yh htw
  have HIN:=yh hin
  have hszr:n1≤wr.heap.size:=by have h1:=htw.2.2.2.1;have:=HN1.out;omega
  have HSZR:=yh hszr
  have hx1:wr.heap[b1]? = _:=(htw.2.2.2.2 b1 (zAg HB1.out) (fun h =>h.elim HBF1.out (fun h =>by omega))).trans HB1.out
  have hx2:wr.heap[b2]? = _:=(htw.2.2.2.2 b2 (zAg HB2.out) (fun h =>h.elim HBF2.out (fun h =>by omega))).trans HB2.out
  have hc1:=zAA (i:=0) hx1 rfl
  have hc2:=zAA (i:=0) hx2 rfl
  have HPW:Hid (PlsT wr wr.heap.size S P nP cP ps):=by
   have h1:=HP.out.turn htw (by have:=HN1.out;omega)
   exact (h1.wide (fun k hk hs =>.inr (hsS k hs).1)).more hszr
  have hN2:N≤500000000:=by have:=HXL.out;omega
  have HLT:Hid (∀ k,S k→k<wr.heap.size):=fun k hk =>by obtain ⟨_,o,ho,_⟩:=hsS k hk;exact zAg ho
  clear hD hJD hdp hN htab hsS htw hin hszr hx1 hx2
  by_cases hlt:i<xs.length
  ·obtain ⟨⟨r,dl,nx⟩,hx⟩:∃ x,xs[i]? = some x:=⟨_,List.getElem?_eq_getElem hlt⟩
   obtain ⟨hg1,hg2,hupx⟩:=HUP.out i _ hx
   simp only at hg1 hg2 hupx
   have HUPC:=yh (hupx S bt N nP cP P wr hN2 HLT.out HTAB.out HPW.out HPC.out)
   have HG1:Hid (atO (xs.take i)<nx∧nx≤ps.length):=⟨hg1,hg2⟩
   have HFX:=yh hx
   have HLTI:Hid (i<xs.length):=hlt
   have HYC:Hid (∀ (V:World) (z:Rw),z.r=r→z.l=dl→J D V→zCJ n1 (z,nx) V→YieldAt Fence.wide (n - 1) Tryz.prog l #[.agg #[.int .i64 z.r.kind,.string (tx z.r.target),.int .u64 z.r.rule,.slice z.A z.n z.c,.int .u64 z.r.out,.int .u64 z.r.time,.string (tx z.r.tag)],.int .i64 (nx:Int)] V fun e V' =>e=.returned (.bool true)∧J (D++[(z,nx)]) V'∧KpR n0 n1 bf V V'):=fun V z hz1 hz2 hj hd =>
    HY.out D (z,nx) V hj ⟨hd,by
     have hl:D.length=i:=by have h1:=congrArg List.length HD.out;rw [List.length_map,List.length_take] at h1;omega
     rw [List.map_append,HD.out,hl,List.take_add_one,HFX.out]
     show _++[(z.r,z.l,nx)]=_
     rw [hz1,hz2];rfl⟩
   clear hx hg1 hg2 hupx hlt
   gi_wp2_with (refine ⟨trivial,?_⟩;gi_at_call 103;refine (callsIn_wide.2 HUPC.out).mono ?_;rintro e w1 ⟨A',n',c',S',rfl,hd,⟨N',hN',ht'⟩,hs',htu⟩;have HD1:Hid (zCJ n1 (⟨r,A',n',c',dl⟩,nx) w1):=zAT hd HSZR.out;have HGK:Hid (GK n1 wr w1):=zLA htu HSS.out;have HGA:Hid (GK n1 w1 (w1.alloc (.cells #[.int .i64 r.kind,.string (tx r.target),.int .u64 r.rule,.slice A' n' c',.int .u64 r.out,.int .u64 r.time,.string (tx r.tag)] 41))):=zFC n1 (World.grownBy_alloc w1 _ none);have HTU:=yh htu;have HT1:=yh ht';have HS1:=yh hs';have HNN:=yh hN';have HJ2:=yh (HJ.out _ _ _ (HJ.out _ _ _ HJD.out HGK.out) HGA.out);have hr2:=zAE w1 (.cells #[.int .i64 r.kind,.string (tx r.target),.int .u64 r.rule,.slice A' n' c',.int .u64 r.out,.int .u64 r.time,.string (tx r.tag)] 41);have p0:=zAA (i:=0) hr2 rfl;have p1:=zAA (i:=1) hr2 rfl;have p2:=zAA (i:=2) hr2 rfl;have p3:=zAA (i:=3) hr2 rfl;have p4:=zAA (i:=4) hr2 rfl;have p5:=zAA (i:=5) hr2 rfl;have p6:=zAA (i:=6) hr2 rfl;obtain ⟨fn,tmps,assign,body,hy,hR⟩:=HYC.out (w1.alloc (.cells #[.int .i64 r.kind,.string (tx r.target),.int .u64 r.rule,.slice A' n' c',.int .u64 r.out,.int .u64 r.time,.string (tx r.tag)] 41)) ⟨r,A',n',c',dl⟩ rfl rfl HJ2.out (HD1.out.gk HGA.out);clear hd hN' ht' hs' htu hr2)
   refine hR.mono ?_
   rintro e W3 ⟨rfl,hJ3,hk3⟩
   obtain ⟨S3,ht3,hs3⟩:=zIk HT1.out
   have HT3:=yh ht3
   have hsz1:n1≤w1.heap.size:=Nat.le_trans HSZR.out HTU.out.2.2.2.1
   have HS3:Hid (∀ k,S3 k→n1≤k∧∃ o,w1.heap[k]? = some o∧TabO o∧W3.heap[k]? = some o):=fun k hk =>by
    obtain ⟨h1,o,ho,hto⟩:=hs3 k hk
    refine ⟨(HS1.out k h1).2.elim (fun h =>(HSS.out k h).1) (fun h =>Nat.le_trans HSZR.out h),o,ho,hto,hk3.2 k o ?_ (.inr (.inl hto))⟩
    exact (Below.heap_alloc w1 _ k (zAg ho)).trans ho
   have HTAB3:Hid (Tab W3 S3 bt N' (tabT ver (tbO ver (xs.take i)) r dl)):=ht3.keep fun k hk _ =>by
    obtain ⟨_,o,ho,_,hw3⟩:=HS3.out k hk
    exact hw3.trans ho.symm
   have HTW3:Hid (Turn (fun k =>k=bf∨n1≤k) w W3):=by
    have h1:=HTWr.out.trans (HTU.out.wide (S2:=fun k =>k=bf∨n1≤k) (fun k hk =>.inr (HSS.out k hk).1)) (fun _ _ h =>h)
    have h2:=h1.trans (Turn.of_below (S:=fun k =>k=bf∨n1≤k) ((Below.refl w1.heap.size w1).alloc (Nat.le_refl _) (.cells #[.int .i64 r.kind,.string (tx r.target),.int .u64 r.rule,.slice A' n' c',.int .u64 r.out,.int .u64 r.time,.string (tx r.tag)] 41))) (fun _ _ h =>h)
    exact h2.trans (zRn hk3 (by simp;omega)) (fun _ _ h =>h)
   have HDP3:Hid (∀ y ∈ D++[((⟨r,A',n',c',dl⟩:Rw),nx)],zCJ n1 y W3):=fun y hy =>by
    rcases List.mem_append.1 hy with h | h
    ·exact (((HDP.out y h).gk HGK.out).gk HGA.out).kp hk3
    ·obtain rfl:=List.mem_singleton.1 h
     exact (HD1.out.gk HGA.out).kp hk3
   have HJ3:=yh hJ3
   have hatn:atO (xs.take (i+1))=nx:=by
    rw [List.take_add_one,HFX.out]
    show atO (xs.take i++[(r,dl,nx)])=_
    rw [zDU]
   have htbn:tbO ver (xs.take (i+1))=tabT ver (tbO ver (xs.take i)) r dl:=by
    rw [List.take_add_one,HFX.out]
    show tbO ver (xs.take i++[(r,dl,nx)])=_
    rw [zGu]
   have HATN:=yh hatn
   have HTBN:=yh htbn
   clear ht3 hs3 hk3 hJ3 hatn htbn hsz1 p0 p1 p2 p3 p4 p5 p6
   gi_wp2
   go_roundw
   case rel =>
    refine ⟨D++[((⟨r,A',n',c',dl⟩:Rw),nx)],i+1,N',S3,by rw [HATN.out],HLTI.out,?_,HJ3.out,HDP3.out,by have h1:=HNN.out;have h2:=HN.out;omega,by rw [HTBN.out];exact HTAB3.out,fun k hk =>?_,HTW3.out⟩
    ·rw [List.map_append,HD.out,List.take_add_one,HFX.out];rfl
    ·obtain ⟨h1,o,_,h3,h4⟩:=HS3.out k hk
     exact ⟨h1,o,h4,h3⟩
   case measure =>
    show ps.length - nx<ps.length - atO (xs.take i)
    have:=HG1.out
    omega
  ·obtain rfl:i=xs.length:=by have:=HIN.out;omega
   have hta:xs.take xs.length=xs:=List.take_length
   rw [hta] at HTAB HD
   rw [hta]
   have HUPC:=yh (HSTOP.out S bt N nP cP P wr hN2 HLT.out HTAB.out HPW.out HPC.out)
   have hre:(e9 != 0)=true:=by rw [bne_iff_ne];exact he9
   clear hta
   gi_wp2_with (refine ⟨trivial,?_⟩;gi_at_call 103;refine (callsIn_wide.2 HUPC.out).mono ?_;rintro e w1 ⟨A',n',c',S',rfl,hd,⟨N',hN',ht'⟩,hs',htu⟩;have HGK:Hid (GK n1 wr w1):=zLA htu HSS.out;have HGA:Hid (GK n1 w1 (w1.alloc (.cells #[.int .i64 rc0.kind,.string (tx rc0.target),.int .u64 rc0.rule,.slice A' n' c',.int .u64 rc0.out,.int .u64 rc0.time,.string (tx rc0.tag)] 41))):=zFC n1 (World.grownBy_alloc w1 _ none);clear hd hN' ht' hs' htu)
   refine ⟨fun _ h =>(by cases h),?_⟩
   gi_wp2
   refine bodyPost_ret (results_none rfl _ _ _) rfl ?_
   exact ⟨⟨_,rfl⟩,D,⟨HD.out,fun y hy =>((HDP.out y hy).gk HGK.out).gk HGA.out⟩,HJ.out _ _ _ (HJ.out _ _ _ HJD.out HGK.out) HGA.out⟩
theorem zKX {α:Type} {F:Fence} {n:Nat} {P:Program} {g:Operand} {ps:Array Tmp} {assign body:Code} {Q:Exit→Act→World→Prop} {a:Act} {w:World}
  (hro:F.round=none) (h1:1≤n) {gf:Nat} {lb:Array Value} (hg:a.eval g=.func (.func gf) #[] lb) (hFg:F.fn gf) (eg:∀ args w,(callFunc gf args).run P w=.ok (.enter gf args) w)
  {encs:α→Array Value} {T:List α→α→World→Prop} {Kp:World→World→Prop} {S:List α→World→Prop} {G:World→World→Prop} (hGa:∀ A B:World,A.grownBy B none→G A B) (hGo:∀ A B:World,G A B→∀ (k:Nat) (o:Obj),A.heap[k]? = some o→((∃ L,o=.loop L) ∨ ∃ L,o=.deferred L)→B.heap[k]? = some o) (hseq:zMW G F (n - 1) P gf lb encs T Kp S w) (hps:∀ x,(encs x).size=ps.size)
  (hKt:∀ {A B C:World},Kp A B→Kp B C→Kp A C) (hKb:∀ (W:World) (l:Nat) (o o':Obj),w.heap.size≤l→W.heap[l]? = some o→(∃ L,o=.loop L)→Kp W (W.putObj l o'))
  (I:List α→World→Prop) (hT:∀ pre x,Own3 w.heap.size (T pre x)) (hS:∀ xs,Own3 w.heap.size (S xs)) (hI:∀ xs,Own3 w.heap.size (I xs)) (hIg:∀ s A B,I s A→G A B→I s B) (h0:I [] w) (a₁:α→World→Act) (u:α→World→World) (hug:∀ (x:α) (V:World),V.grownBy (u x V) none) (hTg:∀ (pre:List α) (x:α) (A B:World),T pre x A→A.grownBy B none→T pre x B) (hKg:∀ A B:World,w.heap.size≤A.heap.size→A.grownBy B none→Kp A B) (Bx:α→World→World→Prop) (hBx:∀ x V,Bx x V (u x V)) (hBp:∀ x V,Own3 w.heap.size (Bx x V))
  (hassign:∀ (l:Nat) (x:α) (W:World) (K:Act→World→Prop),K (a₁ x W) (u x W) →
   assign.wpIn (F.inRound l) (n - 1 - 1) P (Exit.then K (fun _ _ _ =>False)) { tmps:=(ps.zip (encs x)).foldl (fun t (p,v) =>t.setIfInBounds p v) a.tmps,defers:=[] } W)
  (hbody:∀ (l:Nat) (pre:List α) (x:α) (V W:World),I pre W→T pre x W→Bx x V W→body.wpIn (F.inRound l) (n - 1 - 1) P (fun e _ W' =>e=.normal∧KeepsOthers W W'∧Kp W W'∧I (pre++[x]) W') (a₁ x V) W)
  (hdone:∀ (D:Nat) (xs:List α) (W:World),w.heap.size≤D→S xs W→I xs W→W.heap[D]? = some (.deferred (some []))→Q .normal { a with defers:={ target:=.collected D,args:=#[] } :: a.defers } W) :
  (Code.rangeFunc g ps assign body).wpIn F n P Q a w:=by
 refine wpIn_rangeFunc fun fn hfn =>?_
 rw [hro]
 -- the loop's record,and the world with it
 let L:LoopState→Loop:=fun st =>{ state:=st,pending:=none,fn,tmps:=a.tmps,params:=ps,assign,body,defers:=w.heap.size }
 obtain ⟨b,hb⟩:∃ b,b=w.heap.size:=⟨_,rfl⟩
 obtain ⟨Y,hY⟩:∃ Y,Y=(w.alloc (.deferred (some []))).alloc (.loop (L .ready)):=⟨_,rfl⟩
 have hgY:w.grownBy Y none:=by
  rw [hY]
  exact ⟨rfl,rfl,rfl,by simp;omega,fun k hk _ =>(Below.heap_alloc _ _ _ (by simp;omega)).trans (Below.heap_alloc _ _ _ hk)⟩
 have hYl:Y.heap[b+1]? = some (.loop (L .ready)):=by
  have:=World.alloc_heap_new (w.alloc (.deferred (some []))) (.loop (L .ready))
  rw [World.size_alloc,← hY,← hb] at this
  exact this
 have hYd:Y.heap[b]? = some (.deferred (some [])):=by
  rw [hY,hb]
  exact (Below.heap_alloc _ _ _ (by simp)).trans (World.alloc_heap_new w _)
 refine ⟨b+1,[{ target:=.collected b,args:=#[] }],Y,{ target:=.fn (.func gf) lb,args:=#[.func (.yield (b+1)) #[] #[]] },Y,gf,#[.func (.yield (b+1)) #[] #[]]++lb,Y,
  by rw [hY,hb];exact run_enterLoop_outer _ _ _ _ _,by simp only [resolve,hg];simp [go_sem],fun f' hf' =>by simp [Target.leads] at hf';subst hf';exact hFg,by simp [invoke,go_sem,eg],fun _ =>h1,?_⟩
 have hbelow:Below w.heap.size w Y:=⟨hgY.os,hgY.tape,hgY.output,hgY.size,fun k hk =>hgY.block k hk (by simp)⟩
 refine (hseq (b+1) (fun xs W =>I xs W∧W.heap[b+1]? = some (.loop (L .ready))∧W.heap[b]? = some (.deferred (some []))) Y hbelow
  (fun s A B h hg' =>⟨hIg s A B h.1 hg',hGo A B hg' _ _ h.2.1 (.inl ⟨_,rfl⟩),hGo A B hg' _ _ h.2.2 (.inr ⟨_,rfl⟩)⟩) ?_ ⟨hIg _ _ _ h0 (hGa _ _ hgY),hYl,hYd⟩).mono ?_
 ·-- a round
  rintro pre x V0 ⟨hi0,hl0,hd0⟩ ht0
  have hg:=hug x V0
  obtain ⟨V,hV⟩:∃ V,V=u x V0:=⟨_,rfl⟩
  have hgV:V0.grownBy V none:=by rw [hV];exact hg
  have hi:I pre V:=hIg _ _ _ hi0 (hGa _ _ hgV)
  have hl:V.heap[b+1]? = some (.loop (L .ready)):=(hgV.block _ (Array.getElem?_eq_some_iff.1 hl0).1 (by simp)).trans hl0
  have hd:V.heap[b]? = some (.deferred (some [])):=(hgV.block _ (Array.getElem?_eq_some_iff.1 hd0).1 (by simp)).trans hd0
  have ht:T pre x V:=hTg _ _ _ _ ht0 hgV
  have hK0:Kp V0 V:=hKg _ _ (by have:=(Array.getElem?_eq_some_iff.1 hd0).1;omega) hgV
  have hsz:b+1<V.heap.size:=(Array.getElem?_eq_some_iff.1 hl).1
  obtain ⟨V2,hV2⟩:∃ V2,V2=V.putObj (b+1) (.loop (L .busy)):=⟨_,rfl⟩
  have hl2:V2.heap[b+1]? = some (.loop (L .busy)):=by rw [hV2];exact World.putObj_heap_same hsz
  have hd2:V2.heap[b]? = some (.deferred (some [])):=by rw [hV2];exact (World.putObj_heap_other (by omega)).trans hd
  have hK2:Kp V0 V2:=hKt hK0 (by rw [hV2];exact hKb V (b+1) _ _ (by omega) hl ⟨_,rfl⟩)
  have hi2:I pre V2:=by rw [hV2];exact hI pre V (b+1) _ _ hi (by omega) hl ⟨_,rfl⟩
  have ht2:T pre x V2:=by rw [hV2];exact hT pre x V (b+1) _ _ ht (by omega) hl ⟨_,rfl⟩
  have hx2:Bx x V0 V2:=by rw [hV2];exact hBp x V0 V (b+1) _ _ (by rw [hV];exact hBx x V0) (by omega) hl ⟨_,rfl⟩
  refine ⟨fn,_,assign,body,run_yield (P:=P) (args:=encs x) hl0 (hps x),roundIn_of_wpIn hfn (hassign _ x V0 _ ?_)⟩
  rw [← hV]
  refine ⟨V2,?_,?_⟩
  ·rw [hV2];exact run_beginRound hl rfl
  refine wpIn_mono (hbody (b+1) pre x V0 V2 hi2 ht2 hx2) ?_
  rintro e a3 V3 ⟨rfl,hko,hkp,hi3⟩
  have hl3:=hko.same _ _ hl2 rfl
  have hd3:=hko.same _ _ hd2 rfl
  have hend:=run_endRound (P:=P) none hl3
  refine ⟨_,_,hend,⟨rfl,⟨hI _ V3 (b+1) _ _ hi3 (by omega) hl3 ⟨_,rfl⟩,World.putObj_heap_same (Array.getElem?_eq_some_iff.1 hl3).1,(World.putObj_heap_other (by omega)).trans hd3⟩,hKt (hKt hK2 hkp) (hKb V3 (b+1) _ _ (by omega) hl3 ⟨_,rfl⟩)⟩⟩
 ·-- behind the loop
  rintro e Z ⟨⟨v,rfl⟩,xs,hs,hi,hl,hd⟩
  have hend:=run_endLoop (P:=P) hl (by simp [L])
  refine ⟨none,_,hend,?_⟩
  exact hdone b xs _ (by omega) (hS xs Z (b+1) _ _ hs (by omega) hl ⟨_,rfl⟩) (hI xs Z (b+1) _ _ hi (by omega) hl ⟨_,rfl⟩) ((World.putObj_heap_other (by omega)).trans hd)
end Go.Proofs.YtekchkfjgofnkaaGreatDoor
