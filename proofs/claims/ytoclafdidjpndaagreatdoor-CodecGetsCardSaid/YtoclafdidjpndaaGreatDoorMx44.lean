/- Texts of one proof. -/
import Derived.Test.YtoclafdidjpndaaGreatDoorMx43
set_option maxRecDepth 100000
set_option maxHeartbeats 8000000
namespace Go.Proofs.YtoclafdidjpndaaGreatDoor
open Go.RowKit
theorem zFT {ver:Int} {zs:List Rw} {xs:List Rdd} (hz:zBD ver zs) (hf:∀ z ∈ zs,Fits z.r z.l) (hl:zs.length≤30) (h:zGQ ver (zAL ver [] zs) xs) :
  ∀ i,i≤zs.length→i≤xs.length∧(xs.take i).map sayR=(zs.take i).map Rw.say∧atO (xs.take i)=(zAL ver [] (zs.take i)).length∧tbO ver (xs.take i)=zAb ver [] (zs.take i)
 | 0,_ =>⟨Nat.zero_le _,rfl,rfl,rfl⟩
 | i+1,hi =>by
  obtain ⟨h1,h2,h3,h4⟩:=zFT hz hf hl h i (by omega)
  obtain ⟨z,hzi⟩:∃ z,zs[i]? = some z:=⟨_,List.getElem?_eq_getElem (by omega)⟩
  have hzm:=List.mem_of_getElem? hzi
  have hlen:=zFv (ver:=ver) (tl:=[]) hzi
  have hlf:=zER hz hl
  have hlf2:=zER (hz.take i) (by rw [List.length_take];omega)
  have hall:=zKo (ver:=ver) (tl:=[]) hzi
  have hpos:0<(payL ver (zAb ver [] (zs.take i)) z.r z.l).length:=by unfold payL;rw [List.length_append];simp
  obtain ⟨n2,hn2⟩:∃ n2,n2=(zAL ver [] (zs.take (i+1))).length:=⟨_,rfl⟩
  have hle:n2≤(zAL ver [] zs).length:=by
   rw [hall,List.length_append,List.length_append,hn2,hlen.1];omega
  have hfd:zCe ver (tbO ver (xs.take i)) (((zAL ver [] zs).drop (atO (xs.take i))).take (n2 - atO (xs.take i))) z.r z.l:=by
   refine ⟨(hz z hzm).1,(hz z hzm).2,hf z hzm,?_⟩
   rw [h3,h4]
   have e1:n2 - (zAL ver [] (zs.take i)).length=(payL ver (zAb ver [] (zs.take i)) z.r z.l).length:=by rw [hn2,hlen.1];omega
   rw [e1]
   have e2:(zAL ver [] zs).drop (zAL ver [] (zs.take i)).length=payL ver (zAb ver [] (zs.take i)) z.r z.l++zAL ver (zAb ver [] (zs.take (i+1))) (zs.drop (i+1)):=by
    rw [hall,List.drop_left' rfl]
   rw [e2,List.take_left' rfl]
  have hlt2:atO (xs.take i)<n2:=by rw [h3,hn2,hlen.1];omega
  have hxl:i<xs.length:=by
   rcases Nat.lt_or_ge i xs.length with h5 | h5
   ·exact h5
   ·have h6:xs.take i=xs:=List.take_of_length_le h5
    rw [h6] at hfd hlt2
    exact absurd hfd (h.no _ _ _ _ rfl hlt2 hle)
  obtain ⟨x,hx⟩:∃ x,xs[i]? = some x:=⟨_,List.getElem?_eq_getElem hxl⟩
  have hs:=h.chn i x hx
  have hb:=Chn.bounds (xs.take i) (fun j y hy =>by
   rw [List.getElem?_take] at hy
   split at hy
   ·rename_i hj
    rw [List.take_take,Nat.min_eq_left (Nat.le_of_lt hj)]
    exact h.chn j y hy
   ·cases hy)
  obtain ⟨e1,e2,e3⟩:=zMH (by omega) (by omega) hs.lt hs.le hlt2 hle hs.found hfd
  refine ⟨hxl,?_,?_,?_⟩
  ·rw [List.take_add_one,List.take_add_one,hx,hzi,List.map_append,List.map_append,h2]
   show _++[(x.1,x.2.1)]=_++[(z.r,z.l)]
   rw [e2,e3]
  ·rw [List.take_add_one,hx]
   show atO (xs.take i++[x])=_
   rw [zBv,e1,hn2]
  ·rw [List.take_add_one,hx]
   show tbO ver (xs.take i++[x])=_
   rw [zCm,e2,e3,h4,hlen.2]
theorem zGg {ver:Int} {zs:List Rw} {xs:List Rdd} (hz:zBD ver zs) (hf:∀ z ∈ zs,Fits z.r z.l) (hl:zs.length≤30) (h:zGQ ver (zAL ver [] zs) xs) :
  xs.length=zs.length∧xs.map sayR=zs.map Rw.say∧atO xs=(zAL ver [] zs).length:=by
 obtain ⟨h1,h2,h3,_⟩:=zFT hz hf hl h zs.length (Nat.le_refl _)
 have hlen:xs.length=zs.length:=by
  rcases Nat.lt_or_ge zs.length xs.length with h5 | h5
  ·obtain ⟨x,hx⟩:∃ x,xs[zs.length]? = some x:=⟨_,List.getElem?_eq_getElem h5⟩
   have hs:=h.chn _ x hx
   rw [List.take_length] at h3
   have h6:=hs.lt
   have h7:=hs.le
   omega
  ·omega
 rw [← hlen,List.take_length] at h2 h3
 rw [hlen,List.take_length] at h2 h3
 exact ⟨hlen,h2,h3⟩
theorem zPn (v:Nat) (h:1≤v∧v≤3) (bs:List UInt8):vg (hd v++bs)=(v,0):=by
 have h1:(hd v++bs).take 3=[84,80,72]:=rfl
 have h2:(hd v++bs).take 4=hb v:=rfl
 have h3:((hd v++bs).drop 4).take 4=lb (crc (hb v)):=rfl
 have h4:((hd v++bs).drop 3).headD 0=UInt8.ofNat v:=rfl
 have h5:(UInt8.ofNat v).toNat=v:=by simp;omega
 have h6:(hd v++bs).length=8+bs.length:=by simp [hd,hb,zDU];omega
 rw [vg,if_neg (by omega),if_neg (by simpa using h1),h2,h3,if_neg (by simp),h4,h5,if_neg (by rw [zEK (by omega)];simp)]
theorem zJZ:∀ (ps:List (List UInt8)) (a j:Nat) (p:List UInt8),ps[j]? = some p→(told a ps)[j]? = some (p,a+(frs (ps.take (j+1))).length)
 | [],_,_,_,h =>by simp at h
 | q :: ps,a,0,p,h =>by
  obtain rfl:q=p:=by simpa using h
  unfold told
  simp [frs]
 | q :: ps,a,j+1,p,h =>by
  unfold told
  have h1:=zJZ ps (a+(fr q).length) j p (by simpa using h)
  have h2:frs (q :: ps.take (j+1))=fr q++frs (ps.take (j+1)):=rfl
  rw [List.getElem?_cons_succ,h1,List.take_succ_cons,h2,List.length_append,Nat.add_assoc]
theorem zIe:∀ (ps:List (List UInt8)) (a:Nat),(told a ps).map (·.1)=ps
 | [],_ =>rfl
 | p :: ps,a =>by
  unfold told
  rw [List.map_cons,zIe ps]
theorem zMF {v:Nat} {ps:List (List UInt8)} (hp:∀ p ∈ ps,pay p) (n:Nat) (hn:(hd v++frs ps).length=n):frun (n+1) 8 (hd v++frs ps)=told 8 ps:=by
 have h1:=zHK ps (hd v) [] (n+1) hp
 rw [zCa,List.append_nil] at h1
 have h2:frun (ps.length+(n+1)) 8 (hd v++frs ps)=frun (n+1) 8 (hd v++frs ps):=by
  rw [Nat.add_comm]
  exact zHY (n+1) ps.length 8 _ (by rw [List.length_append,zCa];omega) (by omega)
 rw [← h2,h1,zDx (by rw [zGq];simp),List.append_nil]
theorem zJa (ver:Int) (tl:List (List UInt8)) (zs:List Rw) (i:Nat):(zAL ver tl zs).take (zAL ver tl (zs.take i)).length=zAL ver tl (zs.take i):=by
 have h:=zDd ver tl (zs.take i) (zs.drop i)
 rw [List.take_append_drop] at h
 rw [h,List.take_left' rfl]
theorem zPi (ver:Int) (tl:List (List UInt8)) (zs:List Rw) (i:Nat):(zAL ver tl (zs.take i)).length≤(zAL ver tl zs).length:=by
 have h:=congrArg List.length (zJa ver tl zs i)
 rw [List.length_take] at h
 omega
theorem zGX (ver:Int) (zs:List Rw) (i:Nat) (hi:i<zs.length):zBq (told 8 (zAL ver [] zs)) (zAL ver [] (zs.take (i+1))).length=endO ver zs i:=by
 obtain ⟨z,hz⟩:∃ z,zs[i]? = some z:=⟨_,List.getElem?_eq_getElem hi⟩
 have h1:=(zFv (ver:=ver) (tl:=[]) hz).1
 have h2:0<(payL ver (zAb ver [] (zs.take i)) z.r z.l).length:=by unfold payL;rw [List.length_append];simp
 obtain ⟨j,hj⟩:∃ j,(zAL ver [] (zs.take (i+1))).length=j+1:=⟨(zAL ver [] (zs.take (i+1))).length - 1,by omega⟩
 have h3:=zPi ver [] zs (i+1)
 obtain ⟨p,hp⟩:∃ p,(zAL ver [] zs)[j]? = some p:=⟨_,List.getElem?_eq_getElem (by omega)⟩
 have h4:=zJa ver [] zs (i+1)
 rw [hj] at h4
 rw [hj]
 unfold zBq endO
 rw [Nat.add_sub_cancel,zJZ _ 8 j p hp,h4]
 rfl
theorem zKY {ver:Int} {zs:List Rw} {xs:List Rdd} (hz:zBD ver zs) (hf:∀ z ∈ zs,Fits z.r z.l) (hl:zs.length≤30) (h:zGQ ver (zAL ver [] zs) xs) :
  xs.map (endV (told 8 (zAL ver [] zs)))=endL ver zs zs.length∧zAw (told 8 (zAL ver [] zs)) xs=8+(frs (zAL ver [] zs)).length:=by
 obtain ⟨w1,w2,w3⟩:=zGg hz hf hl h
 have hat:∀ (i:Nat) (x:Rdd),xs[i]? = some x→x.2.2=(zAL ver [] (zs.take (i+1))).length:=by
  intro i x hx
  have hi:=(List.getElem?_eq_some_iff.1 hx).1
  have h1:=(zFT hz hf hl h (i+1) (by omega)).2.2.1
  rw [List.take_add_one,hx] at h1
  rw [← h1]
  show _=atO (xs.take i++[x])
  rw [zBv]
 refine ⟨?_,?_⟩
 ·refine List.ext_getElem? fun i =>?_
  rcases Nat.lt_or_ge i xs.length with hi | hi
  ·obtain ⟨x,hx⟩:∃ x,xs[i]? = some x:=⟨_,List.getElem?_eq_getElem hi⟩
   have h1:i<zs.length:=by omega
   unfold endL
   rw [List.getElem?_map,hx,List.getElem?_map,List.getElem?_map,List.getElem?_range h1]
   show some (inv (zBq _ x.2.2))=some (inv (endO ver zs i))
   rw [hat i x hx,zGX ver zs i h1]
  ·rw [List.getElem?_eq_none (by simpa using hi),List.getElem?_eq_none (by unfold endL;simp;omega)]
 ·rcases zEY xs with rfl | ⟨ys,y,rfl⟩
  ·obtain rfl:zs=[]:=List.eq_nil_of_length_eq_zero (by simpa using w1.symm)
   rfl
  ·rw [zCg]
   rw [zBv] at w3
   rw [List.length_append,List.length_singleton] at w1
   have h1:=zGX ver zs ys.length (by omega)
   rw [w1,List.take_length] at h1
   rw [w3,h1]
   unfold endO
   rw [w1,List.take_length]
def zKG {α:Type} (F:Fence) (n:Nat) (P:Program) (gf:Nat) (lb:Array Value) (encs:α→Array Value) (T:List α→α→World→Prop) (Kp:World→World→Prop) (S:List α→World→Prop) (w:World):Prop :=
 ∀ (l:Nat) (J:List α→World→Prop) (W:World),Below w.heap.size w W→(∀ s A B,J s A→A.grownBy B none→J s B) →
  (∀ pre x V,J pre V→T pre x V→YieldAt F (n - 1) P l (encs x) V fun e V' =>e=.returned (.bool true)∧J (pre++[x]) V'∧Kp V V')→J [] W →
  CallsIn F n P gf (#[.func (.yield l) #[] #[]]++lb) W fun e W' =>(∃ v,e=.returned v)∧∃ xs,S xs W'∧J xs W'
def Own2 (B:Nat) (p:World→Prop):Prop:=∀ (W:World) (l:Nat) (o o':Obj),p W→B≤l→W.heap[l]? = some o→o.isCells=false→p (W.putObj l o')
theorem zKI {α:Type} {F:Fence} {n:Nat} {P:Program} {g:Operand} {ps:Array Tmp} {assign body:Code} {Q:Exit→Act→World→Prop} {a:Act} {w:World}
  (hro:F.round=none) (h1:1≤n) {gf:Nat} {lb:Array Value} (hg:a.eval g=.func (.func gf) #[] lb) (hFg:F.fn gf) (eg:∀ args w,(callFunc gf args).run P w=.ok (.enter gf args) w)
  {encs:α→Array Value} {T:List α→α→World→Prop} {Kp:World→World→Prop} {S:List α→World→Prop} (hseq:zKG F (n - 1) P gf lb encs T Kp S w) (hps:∀ x,(encs x).size=ps.size)
  (hKt:∀ {A B C:World},Kp A B→Kp B C→Kp A C) (hKb:∀ (W:World) (l:Nat) (o o':Obj),w.heap.size≤l→W.heap[l]? = some o→o.isCells=false→Kp W (W.putObj l o'))
  (I:List α→World→Prop) (hT:∀ pre x,Own2 w.heap.size (T pre x)) (hS:∀ xs,Own2 w.heap.size (S xs)) (hI:∀ xs,Own2 w.heap.size (I xs)) (hIg:∀ s A B,I s A→A.grownBy B none→I s B) (h0:I [] w) (a₁:α→Act)
  (hassign:∀ (l:Nat) (x:α) (W:World) (K:Act→World→Prop),K (a₁ x) W →
   assign.wpIn (F.inRound l) (n - 1 - 1) P (Exit.then K (fun _ _ _ =>False)) { tmps:=(ps.zip (encs x)).foldl (fun t (p,v) =>t.setIfInBounds p v) a.tmps,defers:=[] } W)
  (hbody:∀ (l:Nat) (pre:List α) (x:α) (W:World),I pre W→T pre x W→body.wpIn (F.inRound l) (n - 1 - 1) P (fun e _ W' =>e=.normal∧KeepsOthers W W'∧Kp W W'∧I (pre++[x]) W') (a₁ x) W)
  (hdone:∀ (D:Nat) (xs:List α) (W:World),w.heap.size≤D→S xs W→I xs W→W.heap[D]? = some (.deferred (some []))→Q .normal { a with defers:={ target:=.collected D,args:=#[] } :: a.defers } W) :
  (Code.rangeFunc g ps assign body).wpIn F n P Q a w:=by
 refine wpIn_rangeFunc fun fn hfn =>?_
 rw [hro]
 -- the loop's record,and the world with it
 let L:LoopState→Loop:=fun st =>{ state:=st,pending:=none,fn,tmps:=a.tmps,params:=ps,assign,body,defers:=w.heap.size }
 obtain ⟨b,hb⟩:∃ b,b=w.heap.size:=⟨_,rfl⟩
 obtain ⟨Y,hY⟩:∃ Y,Y=(w.alloc (.deferred (some []))).alloc (.loop (L .ready)):=⟨_,rfl⟩
 have hgY:w.grownBy Y none:=by
  rw [hY]
  exact ⟨rfl,rfl,rfl,by simp;omega,fun k hk _ =>(Below.heap_alloc _ _ _ (by simp;omega)).trans (Below.heap_alloc _ _ _ hk)⟩
 have hYl:Y.heap[b+1]? = some (.loop (L .ready)):=by
  have:=World.alloc_heap_new (w.alloc (.deferred (some []))) (.loop (L .ready))
  rw [World.size_alloc,← hY,← hb] at this
  exact this
 have hYd:Y.heap[b]? = some (.deferred (some [])):=by
  rw [hY,hb]
  exact (Below.heap_alloc _ _ _ (by simp)).trans (World.alloc_heap_new w _)
 refine ⟨b+1,[{ target:=.collected b,args:=#[] }],Y,{ target:=.fn (.func gf) lb,args:=#[.func (.yield (b+1)) #[] #[]] },Y,gf,#[.func (.yield (b+1)) #[] #[]]++lb,Y,
  by rw [hY,hb];exact run_enterLoop_outer _ _ _ _ _,by simp only [resolve,hg];simp [go_sem],fun f' hf' =>by simp [Target.leads] at hf';subst hf';exact hFg,by simp [invoke,go_sem,eg],fun _ =>h1,?_⟩
 have hbelow:Below w.heap.size w Y:=⟨hgY.os,hgY.tape,hgY.output,hgY.size,fun k hk =>hgY.block k hk (by simp)⟩
 refine (hseq (b+1) (fun xs W =>I xs W∧W.heap[b+1]? = some (.loop (L .ready))∧W.heap[b]? = some (.deferred (some []))) Y hbelow
  (fun s A B h hg' =>⟨hIg s A B h.1 hg',(hg'.block _ (Array.getElem?_eq_some_iff.1 h.2.1).1 (by simp)).trans h.2.1,(hg'.block _ (Array.getElem?_eq_some_iff.1 h.2.2).1 (by simp)).trans h.2.2⟩) ?_ ⟨hIg _ _ _ h0 hgY,hYl,hYd⟩).mono ?_
 ·-- a round
  rintro pre x V ⟨hi,hl,hd⟩ ht
  have hsz:b+1<V.heap.size:=(Array.getElem?_eq_some_iff.1 hl).1
  obtain ⟨V2,hV2⟩:∃ V2,V2=V.putObj (b+1) (.loop (L .busy)):=⟨_,rfl⟩
  have hl2:V2.heap[b+1]? = some (.loop (L .busy)):=by rw [hV2];exact World.putObj_heap_same hsz
  have hd2:V2.heap[b]? = some (.deferred (some [])):=by rw [hV2];exact (World.putObj_heap_other (by omega)).trans hd
  have hK2:Kp V V2:=by rw [hV2];exact hKb V (b+1) _ _ (by omega) hl rfl
  have hi2:I pre V2:=by rw [hV2];exact hI pre V (b+1) _ _ hi (by omega) hl rfl
  have ht2:T pre x V2:=by rw [hV2];exact hT pre x V (b+1) _ _ ht (by omega) hl rfl
  refine ⟨fn,_,assign,body,run_yield (P:=P) (args:=encs x) hl (hps x),roundIn_of_wpIn hfn (hassign _ x V _ ⟨V2,?_,?_⟩)⟩
  ·rw [hV2];exact run_beginRound hl rfl
  refine wpIn_mono (hbody (b+1) pre x V2 hi2 ht2) ?_
  rintro e a3 V3 ⟨rfl,hko,hkp,hi3⟩
  have hl3:=hko.same _ _ hl2 rfl
  have hd3:=hko.same _ _ hd2 rfl
  have hend:=run_endRound (P:=P) none hl3
  refine ⟨_,_,hend,⟨rfl,⟨hI _ V3 (b+1) _ _ hi3 (by omega) hl3 rfl,World.putObj_heap_same (Array.getElem?_eq_some_iff.1 hl3).1,(World.putObj_heap_other (by omega)).trans hd3⟩,hKt (hKt hK2 hkp) (hKb V3 (b+1) _ _ (by omega) hl3 rfl)⟩⟩
 ·-- behind the loop
  rintro e Z ⟨⟨v,rfl⟩,xs,hs,hi,hl,hd⟩
  have hend:=run_endLoop (P:=P) hl (by simp [L])
  refine ⟨none,_,hend,?_⟩
  exact hdone b xs _ (by omega) (hS xs Z (b+1) _ _ hs (by omega) hl rfl) (hI xs Z (b+1) _ _ hi (by omega) hl rfl) ((World.putObj_heap_other (by omega)).trans hd)
def Own3 (B:Nat) (p:World→Prop):Prop:=∀ (W:World) (l:Nat) (o o':Obj),p W→B≤l→W.heap[l]? = some o→(∃ L,o=.loop L)→p (W.putObj l o')
def zLT {α:Type} (G:World→World→Prop) (F:Fence) (n:Nat) (P:Program) (gf:Nat) (lb:Array Value) (encs:α→Array Value) (T:List α→α→World→Prop) (Kp:World→World→Prop) (S:List α→World→Prop) (w:World):Prop :=
 ∀ (l:Nat) (J:List α→World→Prop) (W:World),Below w.heap.size w W→(∀ s A B,J s A→G A B→J s B) →
  (∀ pre x V,J pre V→T pre x V→YieldAt F (n - 1) P l (encs x) V fun e V' =>e=.returned (.bool true)∧J (pre++[x]) V'∧Kp V V')→J [] W →
  CallsIn F n P gf (#[.func (.yield l) #[] #[]]++lb) W fun e W' =>(∃ v,e=.returned v)∧∃ xs,S xs W'∧J xs W'
open Go.RowKit Go.Shelf
attribute [local go_sem] Oper.semAt_some
def Kp (n0:Nat) (V V':World):Prop :=
 Below n0 V V'∧∀ (k:Nat) (o:Obj),V.heap[k]? = some o→(k<n0∨k=n0+2∨k=n0+3 ∨ ∃ (cs:Array Value) (f:Nat×Nat),o=.cells cs 5 f)→V'.heap[k]? = some o
theorem Kp.trans {n0:Nat} {A B C:World} (h:Kp n0 A B) (k:Kp n0 B C):Kp n0 A C:=⟨h.1.trans k.1,fun i o hi hc =>k.2 i o (h.2 i o hi hc) hc⟩
theorem zOC {n0:Nat} {W W':World} {row:Option Nat} (hg:W.grownBy W' row) (hn0:n0≤W.heap.size)
  (hr:∀ r,row=some r→n0≤r∧r≠n0+2∧r≠n0+3∧∃ (cs:Array Value) (e:TypeId) (f:Nat×Nat),W.heap[r]? = some (.cells cs e f)∧e≠5):Kp n0 W W':=by
 refine ⟨(Below.refl n0 W).grown hg hn0 (fun r e =>(hr r e).1),fun k o hk hc =>?_⟩
 refine (hg.block k (Array.getElem?_eq_some_iff.1 hk).1 (fun e =>?_)).trans hk
 obtain ⟨h1,h2,h3,cs,e2,f,h4,h5⟩:=hr k e.symm
 rw [hk] at h4
 injection h4 with h4
 subst h4
 rcases hc with h | h | h | ⟨cs2,f2,h⟩
 ·omega
 ·exact h2 h
 ·exact h3 h
 ·injection h with _ h
  exact h5 h
theorem zDs {n0:Nat} {W:World} {l:Nat} {o:Obj} (o':Obj) (hl:n0+4≤l) (h:W.heap[l]? = some o) (ho:o.isCells=false):∀ (k:Nat) (p:Obj),W.heap[k]? = some p→(k<n0∨k=n0+2∨k=n0+3∨p.isCells=true)→(W.putObj l o').heap[k]? = some p:=by
 intro k p hk hc
 refine (World.putObj_heap_other (fun e =>?_)).trans hk
 subst e
 rw [h] at hk
 injection hk with hk
 subst hk
 rcases hc with h | h | h | h
 ·omega
 ·omega
 ·omega
 ·rw [ho] at h;cases h
theorem Mine.kp {n0:Nat} {W W':World} {v:Value} {bs:List UInt8} (h:Mine W n0 v bs) (hk:Kp n0 W W'):Mine W' n0 v bs :=
 h.keep fun g cs f _ hg =>(hk.2 g _ hg (.inr (.inr (.inr ⟨cs,f,rfl⟩)))).trans hg.symm
theorem zKB (A:Option Addr) (m c:Nat) (a:Int) (w:World) :
  Calls Tryz.prog 42 #[.slice A m c,.int .i64 a] w fun e w' =>e=.returned (.func (.func 58) #[] #[.pointer (some ⟨w.heap.size+1,0,none⟩),.pointer (some ⟨w.heap.size,0,none⟩)])∧w'=(w.alloc (.cells #[.slice A m c] 25)).alloc (.cells #[.int .i64 a] 3):=by
 refine (callsIn_wide (n:=1)).1 ?_
 refine callsIn_of_wp Tryz.func42 rfl trivial ?_ rfl
 simp only [Tryz.ntmps42,List.size_toArray,List.length_cons,List.length_nil,Nat.reduceAdd,Nat.reduceSub,Array.replicate_succ,Array.replicate_zero,List.push_toArray,List.append_toArray,List.nil_append,List.cons_append]
 gi_wp2
 go_ret
 exact ⟨rfl,rfl⟩
abbrev Got:=Value×(List UInt8×Nat)
def gotv (x:Got):Array Value:=#[x.1,.int .i64 (x.2.2:Int)]
def GotT (n0:Nat) (pre:List Got) (x:Got) (W:World):Prop:=pre.length<1073741824∧Mine W n0 x.1 x.2.1
def GotS (n0:Nat) (F:List (List UInt8×Nat)) (xs:List Got) (W:World):Prop:=xs.map (·.2)=F∧∀ x ∈ xs,Mine W n0 x.1 x.2.1
theorem zIY (n n0:Nat) (hn:1≤n) (A:Option Addr) (m c a0:Nat) (bs:List UInt8) (hc:m≤c) (hm:m≤1073741824) (ha0:a0≤m) (F:List (List UInt8×Nat)) (hF:F=frun (m+1) a0 bs)
  (ws:World) (hs:ws.heap.size=n0) (hl:Laid ws) (hr:zAE ws n0 1 A m (bs.map bv)) (w:World) (hb0:Below n0 ws w) (hx1:w.heap[n0+2]? = some (.cells #[.slice A m c] 25)) (hx2:w.heap[n0+3]? = some (.cells #[.int .i64 (a0:Int)] 3)) :
  zKG Fence.wide n Tryz.prog 58 #[.pointer (some ⟨n0+3,0,none⟩),.pointer (some ⟨n0+2,0,none⟩)] gotv (GotT n0) (Kp n0) (GotS n0 F) w:=by
 intro l J W hW hJ hY h0
 have hbl:bs.length=m:=by have:=hr.1;simpa using this
 have hw1:n0+2<w.heap.size:=(Array.getElem?_eq_some_iff.1 hx1).1
 have hw2:n0+3<w.heap.size:=(Array.getElem?_eq_some_iff.1 hx2).1
 have HX1:=yh hx1
 have HX2:=yh hx2
 have HF:=yh hF
 have HL:=yh hl
 have HR:=yh hr
 have HBL:=yh hbl
 have HB0:=yh hb0
 have HS:=yh hs
 have hWs:Below n0 ws W:=hb0.trans (hW.mono (by omega))
 have hW1:W.heap[n0+2]? = some (.cells #[.slice A m c] 25):=(hW.block _ hw1).trans hx1
 have hW2:W.heap[n0+3]? = some (.cells #[.int .i64 (a0:Int)] 3):=(hW.block _ hw2).trans hx2
 have hcell2:W.cell? ⟨n0+3,0,none⟩=some (.int .i64 (a0:Int)):=by simp [World.cell?,hW2]
 clear hx1 hx2 hF hl hr hbl hb0 hs
 refine callsIn_of_wp Tryz.func58 rfl trivial ?_ rfl
 simp only [Tryz.ntmps58,List.size_toArray,List.length_cons,List.length_nil,Nat.reduceAdd,Nat.reduceSub,Array.replicate_succ,Array.replicate_zero,List.push_toArray,List.append_toArray,List.nil_append,List.cons_append]
 gi_wp2
 gi_loopw [4] (fun p wr =>∃ (D:List Got) (a k:Nat),p=.int .i64 (a:Int)∧a≤m∧m - a<k∧D.length≤a∧F=D.map (·.2)++frun k a bs∧J D wr∧(∀ x ∈ D,Mine wr n0 x.1 x.2.1)∧Below n0 ws wr ∧
   wr.heap[n0+2]? = some (.cells #[.slice A m c] 25)∧n0+3<wr.heap.size)
  (fun p wr =>m - (intOf p).toNat)
 case atStart =>
  exact ⟨[],a0,m+1,rfl,ha0,by omega,by simp,HF.out,h0,by simp,hWs,hW1,(Array.getElem?_eq_some_iff.1 hW2).1⟩
 case round =>
  obtain ⟨D,a,k,rfl,ha,hk,hD,hFD,hJD,hM,hb,hbox,hsz⟩:=hrel
  obtain ⟨k,rfl⟩:∃ k',k=k'+1:=⟨k - 1,by omega⟩
  obtain ⟨p,nx,er,hg⟩:∃ p nx er,fg a bs=(p,nx,er):=⟨_,_,_,rfl⟩
  have hcell:wr.cell? ⟨n0+2,0,none⟩=some (.slice A m c):=by simp [World.cell?,hbox]
  have hld:Laid wr:=HL.out.below (by rw [HS.out];exact hb)
  have hget:=zMU A m c a bs hc hm ha wr hld ((HR.out.below hb).more (by omega))
  rw [hg] at hget
  have HGET:=yh hget
  have HHG:=yh hg
  have HFD:=yh hFD
  have HM:=yh hM
  clear hg hget hFD hld hM
  by_cases her:er=0
  ·subst her
   have h4:=zHw HHG.out
   rw [HBL.out] at h4
   have hfit:D.length<1073741824:=by omega
   have HY:Hid (∀ (w1:World) (v:Value),Below wr.heap.size wr w1→Mine w1 wr.heap.size v p→YieldAt Fence.wide (n - 1) Tryz.prog l #[v,.int .i64 (nx:Int)] w1 fun e V' =>e=.returned (.bool true)∧J (D++[(v,(p,nx))]) V'∧Kp n0 w1 V'):=fun w1 v hb1 hm1 =>
    hY D (v,(p,nx)) w1 (hJ D wr w1 hJD ⟨hb1.os,hb1.tape,hb1.output,hb1.size,fun k hk _ =>hb1.block k hk⟩) ⟨hfit,hm1.less (by omega)⟩
   gi_wp2_with (refine ⟨trivial,?_⟩;gi_at_call 59;refine (callsIn_wide.2 HGET.out).mono ?_;rintro e w1 ⟨v,rfl,hm1,hb1⟩;obtain ⟨fn,tmps,assign,body,hy,hR⟩:=HY.out w1 v hb1 hm1)
   refine hR.mono ?_
   rintro e W3 ⟨rfl,hJ3,hk3⟩
   gi_wp2
   go_roundw
   case rel =>
    have hbelow:Below n0 ws W3:=(hb.trans (hb1.mono (by omega))).trans hk3.1
    have hbx:w1.heap[n0+2]? = some (.cells #[.slice A m c] 25):=(hb1.block _ (by omega)).trans hbox
    refine ⟨D++[(v,(p,nx))],nx,k,by go_num,by omega,by omega,by simp;omega,by rw [HFD.out,zJQ HHG.out];simp,hJ3,?_,hbelow,hk3.2 _ _ hbx (.inr (.inl rfl)),by have:=hk3.1.size;have:=hb1.size;omega⟩
    intro x hx
    rcases List.mem_append.1 hx with hx | hx
    ·exact ((HM.out x hx).below hb1).kp hk3
    ·obtain rfl:=List.mem_singleton.1 hx
     exact (hm1.less (by omega)).kp hk3
   case measure =>simp [intOf];omega
  ·have hre:((er:Int) != 0)=true:=by rw [bne_iff_ne];omega
   have HE:=yh her
   clear her
   gi_wp2_with (refine ⟨trivial,?_⟩;gi_at_call 59;refine (callsIn_wide.2 HGET.out).mono ?_;rintro e w1 ⟨v,rfl,hm1,hb1⟩)
   refine ⟨fun _ h =>(by cases h),?_⟩
   gi_wp2
   refine bodyPost_ret (results_none rfl _ _ _) rfl ?_
   have hF2:F=D.map (·.2):=by rw [HFD.out,zDx (by rw [HHG.out];exact HE.out),List.append_nil]
   exact ⟨⟨_,rfl⟩,D,⟨hF2.symm,fun x hx =>(HM.out x hx).below hb1⟩,hJ D wr w1 hJD ⟨hb1.os,hb1.tape,hb1.output,hb1.size,fun k hk _ =>hb1.block k hk⟩⟩
def TabO (o:Obj):Prop:=(∃ cs f,o=.cells cs 9 f)∨(∃ cs f,o=.cells cs 80 f) ∨ ∃ es c,o=.map es c
def DepO (o:Obj):Prop:=∃ cs f,o=.cells cs 73 f
def GK (n1:Nat) (A B:World):Prop:=B.os=A.os∧B.tape=A.tape∧B.output=A.output∧A.heap.size≤B.heap.size∧∀ (k:Nat) (o:Obj),A.heap[k]? = some o→(k<n1 ∨ ¬ TabO o)→B.heap[k]? = some o
theorem zEj (n1:Nat) {A B:World} (h:A.grownBy B none):GK n1 A B:=⟨h.os,h.tape,h.output,h.size,fun k _ hk _ =>(h.block k (zAO hk) (by simp)).trans hk⟩
theorem zNE {n1:Nat} {A B:World} (h:Below A.heap.size A B):GK n1 A B:=⟨h.os,h.tape,h.output,h.size,fun k _ hk _ =>(h.block k (zAO hk)).trans hk⟩
theorem zJl {n1:Nat} {S:Nat→Prop} {A B:World} (h:Turn S A B) (hs:∀ k,S k→n1≤k∧∃ o,A.heap[k]? = some o∧TabO o):GK n1 A B :=
 ⟨h.1,h.2.1,h.2.2.1,h.2.2.2.1,fun k o hk hc =>(h.2.2.2.2 k (zAO hk) (fun hS =>by
  obtain ⟨h1,o',h2,h3⟩:=hs k hS
  rw [hk] at h2
  obtain rfl:=Option.some.inj h2
  rcases hc with h4 | h4
  ·omega
  ·exact h4 h3)).trans hk⟩
theorem zMu (n1:Nat) (A B:World) (h:GK n1 A B) (k:Nat) (o:Obj) (hk:A.heap[k]? = some o) (hc:(∃ L,o=.loop L) ∨ ∃ L,o=.deferred L):B.heap[k]? = some o:=by
 refine h.2.2.2.2 k o hk (.inr fun ht =>?_)
 rcases hc with ⟨L,rfl⟩ | ⟨L,rfl⟩ <;> rcases ht with ⟨_,_,h1⟩ | ⟨_,_,h1⟩ | ⟨_,_,h1⟩ <;> cases h1
def KpR (n0 n1 bf:Nat) (V V':World):Prop:=Below n0 V V'∧∀ (k:Nat) (o:Obj),V.heap[k]? = some o→((k<n1∧k≠bf)∨TabO o∨DepO o)→V'.heap[k]? = some o
theorem KpR.trans {n0 n1 bf:Nat} {A B C:World} (h:KpR n0 n1 bf A B) (k:KpR n0 n1 bf B C):KpR n0 n1 bf A C:=⟨h.1.trans k.1,fun i o hi hc =>k.2 i o (h.2 i o hi hc) hc⟩
theorem zGy {n0 n1 bf:Nat} (W:World) (l:Nat) (o o':Obj) (hn:n0≤n1) (hl:n1≤l) (ho:W.heap[l]? = some o) (hc:∃ L,o=.loop L):KpR n0 n1 bf W (W.putObj l o'):=by
 obtain ⟨L,rfl⟩:=hc
 refine ⟨(Below.refl n0 W).grown (grownBy_putObj' W l o') (by have:=zAO ho;omega) (fun k e =>by cases e;omega),fun k p hk hcs =>(World.putObj_heap_other (fun e =>?_)).trans hk⟩
 subst e
 rw [ho] at hk
 obtain rfl:=Option.some.inj hk
 rcases hcs with h1 | h1 | h1
 ·omega
 ·rcases h1 with ⟨_,_,h1⟩ | ⟨_,_,h1⟩ | ⟨_,_,h1⟩ <;> cases h1
 ·obtain ⟨_,_,h1⟩:=h1;cases h1
theorem zHd {w:World} {S:Nat→Prop} {b N:Nat} {l:List (List UInt8)} (h:Tab w S b N l):∃ S2:Nat→Prop,Tab w S2 b N l∧∀ k,S2 k→S k∧∃ o,w.heap[k]? = some o∧TabO o:=by
 obtain ⟨L,c,mv,h1,h2,h3,h4,h5,h6⟩:=h
 refine ⟨fun k =>k=b∨(Value.slice L l.length c).ownBlock=some k∨(mv=some k∧S k∧∃ o,w.heap[k]? = some o∧TabO o),⟨L,c,mv,h1,.inl rfl,h3,fun g hg =>.inr (.inl hg),?_,h6⟩,fun k hk =>?_⟩
 ·rcases h5 with h5 | ⟨mb,D,e,hs,hm,hn⟩
  ·exact .inl h5
  ·refine .inr ⟨mb,D,e,.inr (.inr ⟨e,hs,?_⟩),hm,hn⟩
   obtain ⟨es,clock,hb,r⟩:=hm
   exact ⟨_,hb,.inr (.inr ⟨_,_,rfl⟩)⟩
 ·rcases hk with rfl | hk | ⟨_,hs,ho⟩
  ·exact ⟨h2,_,h1,.inr (.inl ⟨_,_,rfl⟩)⟩
  ·refine ⟨h4 k hk,?_⟩
   rcases h3.2 with ⟨e,_⟩ | ⟨g,cap,cur,e,_,hh,_⟩
   ·rw [e] at hk;simp [Value.ownBlock] at hk
   ·rw [e] at hk
    obtain rfl:g=k:=by simpa [Value.ownBlock] using hk
    exact ⟨_,hh,.inl ⟨_,_,rfl⟩⟩
  ·exact ⟨hs,ho⟩
abbrev Hnd:=Rw×Nat
def hndv (x:Hnd):Array Value:=#[.agg #[.int .i64 x.1.r.kind,.string (tx x.1.r.target),.int .u64 x.1.r.rule,.slice x.1.A x.1.n x.1.c,.int .u64 x.1.r.out,.int .u64 x.1.r.time,.string (tx x.1.r.tag)],.int .i64 (x.2:Int)]
def sayH (x:Hnd):Rdd:=(x.1.r,x.1.l,x.2)
def zCI (n1:Nat) (x:Hnd) (W:World):Prop:=W.ownsRow n1 73 3 (.slice x.1.A x.1.n x.1.c) x.1.n (dps x.1.l)
def HndT (n1:Nat) (xs:List Rdd) (pre:List Hnd) (x:Hnd) (W:World):Prop:=zCI n1 x W∧(pre++[x]).map sayH=xs.take (pre.length+1)
def HndS (n1:Nat) (xs:List Rdd) (ys:List Hnd) (W:World):Prop:=ys.map sayH=xs∧∀ y ∈ ys,zCI n1 y W
theorem zCI.keep {n1:Nat} {x:Hnd} {W W':World} (h:zCI n1 x W) (hk:∀ (k:Nat) (o:Obj),W.heap[k]? = some o→DepO o→W'.heap[k]? = some o):zCI n1 x W':=by
 refine zAT h fun g hg =>?_
 rcases h.2 with ⟨e,_⟩ | ⟨g2,cap,cur,e,_,hh,_⟩
 ·rw [e] at hg;simp [Value.ownBlock] at hg
 ·rw [e] at hg
  obtain rfl:g2=g:=by simpa [Value.ownBlock] using hg
  exact (hk _ _ hh ⟨_,_,rfl⟩).trans hh.symm
theorem zCI.gk {n1:Nat} {x:Hnd} {A B:World} (h:zCI n1 x A) (hg:GK n1 A B):zCI n1 x B :=
 h.keep fun k o hk hd =>hg.2.2.2.2 k o hk (.inr fun ht =>by
  obtain ⟨cs,f,rfl⟩:=hd
  rcases ht with ⟨_,_,h1⟩ | ⟨_,_,h1⟩ | ⟨_,_,h1⟩
  ·injection h1 with _ h2;revert h2;decide
  ·injection h1 with _ h2;revert h2;decide
  ·cases h1)
theorem zCI.kp {n0 n1 bf:Nat} {x:Hnd} {A B:World} (h:zCI n1 x A) (hg:KpR n0 n1 bf A B):zCI n1 x B:=h.keep fun k o hk hd =>hg.2 k o hk (.inr (.inr hd))
end Go.Proofs.YtoclafdidjpndaaGreatDoor
