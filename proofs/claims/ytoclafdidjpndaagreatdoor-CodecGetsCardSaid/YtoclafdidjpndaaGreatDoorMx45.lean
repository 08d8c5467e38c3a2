/- Texts of one proof. -/
import Derived.Test.YtoclafdidjpndaaGreatDoorMx44
set_option maxRecDepth 100000
set_option maxHeartbeats 8000000
namespace Go.Proofs.YtoclafdidjpndaaGreatDoor
open Go.RowKit
theorem zOB {n0 n1 bf:Nat} {A B:World} (h:KpR n0 n1 bf A B) (_hn:n1≤A.heap.size):Turn (fun k =>k=bf∨n1≤k) A B :=
 ⟨h.1.os,h.1.tape,h.1.output,h.1.size,fun k hk hs =>by
  have h1:k≠bf:=fun e =>hs (.inl e)
  have h2:k<n1:=by
   rcases Nat.lt_or_ge k n1 with h3 | h3
   ·exact h3
   ·exact absurd (.inr h3) hs
  have ho:A.heap[k]? = some A.heap[k]:=Array.getElem?_eq_getElem hk
  exact (h.2 k _ ho (.inl ⟨h2,h1⟩)).trans ho.symm⟩
theorem zHr (n n0 n1 bf b1 b2:Nat) (hn:1≤n) (ver:Int) (ps:List (List UInt8)) (xs:List Rdd) (hxl:xs.length≤1000) (P:Option Addr) (nP cP:Nat)
  (hup:∀ (i:Nat) (x:Rdd),xs[i]? = some x→atO (xs.take i)<x.2.2∧x.2.2≤ps.length∧UP ver (tbO ver (xs.take i)) ps (atO (xs.take i):Int) x.1 x.2.1 (x.2.2:Int) 0 (tabT ver (tbO ver (xs.take i)) x.1 x.2.1))
  (e9:Int) (he9:e9≠0) (hstop:UP ver (tbO ver xs) ps (atO xs:Int) rc0 [] 0 e9 (tbO ver xs))
  (w:World) (hn1:w.heap.size=n1) (hb1:w.heap[b1]? = some (.cells #[.int .i64 ver] 3 (0,0))) (hb2:w.heap[b2]? = some (.cells #[.slice P nP cP] 59 (0,0))) (hbf1:b1≠bf) (hbf2:b2≠bf)
  (hP:PlsT w n1 (fun k =>k=bf∨n1≤k) P nP cP ps) (hPc:P=none→cP=0) :
  zLT (GK n1) Fence.wide n Tryz.prog 43 #[.pointer (some ⟨b1,0,none⟩),.pointer (some ⟨b2,0,none⟩)] hndv (HndT n1 xs) (KpR n0 n1 bf) (HndS n1 xs) w:=by
 intro l J W hW hJ hY h0
 have hw1:b1<n1:=by have:=zAO hb1;omega
 have hw2:b2<n1:=by have:=zAO hb2;omega
 have HUP:=yh hup
 have HSTOP:=yh hstop
 have HB1:=yh hb1
 have HB2:=yh hb2
 have HP:=yh hP
 have HPC:=yh hPc
 have HXL:=yh hxl
 have HN1:=yh hn1
 have HBF1:=yh hbf1
 have HBF2:=yh hbf2
 have HJ:=yh hJ
 have HY:=yh hY
 have hTW:Turn (fun k =>k=bf∨n1≤k) w W:=Turn.of_below hW
 have HWS:Hid (n1≤W.heap.size):=by have:=hW.size;show _≤_;omega
 have HTW:=yh hTW
 clear hup hstop hb1 hb2 hP hPc hxl hJ hY hTW hn1 hbf1 hbf2
 refine callsIn_of_wp Tryz.func43 rfl trivial ?_ rfl
 simp only [Tryz.ntmps43,List.size_toArray,List.length_cons,List.length_nil,Nat.reduceAdd,Nat.reduceSub,Array.replicate_succ,Array.replicate_zero,List.push_toArray,List.append_toArray,List.nil_append,List.cons_append]
 gi_wp2_with (refine ⟨trivial,?_⟩;gi_at_call 14;refine (callsIn_wide.2 (zGw none 0 0 W.heap.size [] (by omega) (by simp) W (Nat.le_refl _) ⟨by simp,fun h =>absurd h (by omega)⟩)).mono ?_;rintro e w1 ⟨rfl,ht1,hb1⟩)
 obtain ⟨S1,ht2,hs2⟩:=zHd ht1
 have HS2:Hid (∀ k,S1 k→n1≤k∧∃ o,w1.heap[k]? = some o∧TabO o):=fun k hk =>⟨Nat.le_trans HWS.out (hs2 k hk).1,(hs2 k hk).2⟩
 have HT2:=yh ht2
 have HJ1:=yh (HJ.out _ _ _ h0 (zNE (n1:=n1) hb1))
 have HTW1:=yh (HTW.out.trans (Turn.of_below (S:=fun k =>k=bf∨n1≤k) hb1) (fun _ _ h =>h))
 obtain ⟨bt,hbt⟩:∃ bt,bt=W.heap.size:=⟨_,rfl⟩
 rw [← hbt] at HT2
 rw [← hbt]
 clear ht1 ht2 hs2 hb1 h0 hbt
 gi_wp2
 gi_loopw [5] (fun v5 wr =>∃ (D:List Hnd) (i N:Nat) (S:Nat→Prop),v5=.int .i64 (atO (xs.take i):Int)∧i≤xs.length∧D.map sayH=xs.take i∧J D wr∧(∀ y ∈ D,zCI n1 y wr)∧N≤100036 * i∧Tab wr S bt N (tbO ver (xs.take i))∧(∀ k,S k→n1≤k∧∃ o,wr.heap[k]? = some o∧TabO o)∧Turn (fun k =>k=bf∨n1≤k) w wr)
  (fun v5 wr =>ps.length - (intOf v5).toNat)
 case atStart =>
  exact ⟨[],0,0,S1,rfl,Nat.zero_le _,rfl,HJ1.out,(fun y hy =>by cases hy),Nat.le_refl _,HT2.out,HS2.out,HTW1.out⟩
 case round =>
  obtain ⟨D,i,N,S,rfl,hin,hD,hJD,hdp,hN,htab,hsS,htw⟩:=hrel
  have HD:=yh hD
  have HJD:=yh hJD
  have HDP:=yh hdp
  have HN:=yh hN
  have HTAB:=yh htab
  have HSS:=yh hsS
  have HTWr:=yh htw
  have HIN:=yh hin
  have hszr:n1≤wr.heap.size:=by have h1:=htw.2.2.2.1;have:=HN1.out;omega
  have HSZR:=yh hszr
  have hx1:wr.heap[b1]? = _:=(htw.2.2.2.2 b1 (zAO HB1.out) (fun h =>h.elim HBF1.out (fun h =>by omega))).trans HB1.out
  have hx2:wr.heap[b2]? = _:=(htw.2.2.2.2 b2 (zAO HB2.out) (fun h =>h.elim HBF2.out (fun h =>by omega))).trans HB2.out
  have hc1:=zAA (i:=0) hx1 rfl
  have hc2:=zAA (i:=0) hx2 rfl
  have HPW:Hid (PlsT wr wr.heap.size S P nP cP ps):=by
   have h1:=HP.out.turn htw (by have:=HN1.out;omega)
   exact (h1.wide (fun k hk hs =>.inr (hsS k hs).1)).more hszr
  have hN2:N≤500000000:=by have:=HXL.out;omega
  have HLT:Hid (∀ k,S k→k<wr.heap.size):=fun k hk =>by obtain ⟨_,o,ho,_⟩:=hsS k hk;exact zAO ho
  clear hD hJD hdp hN htab hsS htw hin hszr hx1 hx2
  by_cases hlt:i<xs.length
  ·obtain ⟨⟨r,dl,nx⟩,hx⟩:∃ x,xs[i]? = some x:=⟨_,List.getElem?_eq_getElem hlt⟩
   obtain ⟨hg1,hg2,hupx⟩:=HUP.out i _ hx
   simp only at hg1 hg2 hupx
   have HUPC:=yh (hupx S bt N nP cP P wr hN2 HLT.out HTAB.out HPW.out HPC.out)
   have HG1:Hid (atO (xs.take i)<nx∧nx≤ps.length):=⟨hg1,hg2⟩
   have HFX:=yh hx
   have HLTI:Hid (i<xs.length):=hlt
   have HYC:Hid (∀ (V:World) (z:Rw),z.r=r→z.l=dl→J D V→zCI n1 (z,nx) V→YieldAt Fence.wide (n - 1) Tryz.prog l #[.agg #[.int .i64 z.r.kind,.string (tx z.r.target),.int .u64 z.r.rule,.slice z.A z.n z.c,.int .u64 z.r.out,.int .u64 z.r.time,.string (tx z.r.tag)],.int .i64 (nx:Int)] V fun e V' =>e=.returned (.bool true)∧J (D++[(z,nx)]) V'∧KpR n0 n1 bf V V'):=fun V z hz1 hz2 hj hd =>
    HY.out D (z,nx) V hj ⟨hd,by
     have hl:D.length=i:=by have h1:=congrArg List.length HD.out;rw [List.length_map,List.length_take] at h1;omega
     rw [List.map_append,HD.out,hl,List.take_add_one,HFX.out]
     show _++[(z.r,z.l,nx)]=_
     rw [hz1,hz2];rfl⟩
   clear hx hg1 hg2 hupx hlt
   gi_wp2_with (refine ⟨trivial,?_⟩;gi_at_call 44;refine (callsIn_wide.2 HUPC.out).mono ?_;rintro e w1 ⟨A',n',c',S',rfl,hd,⟨N',hN',ht'⟩,hs',htu⟩;have HD1:Hid (zCI n1 (⟨r,A',n',c',dl⟩,nx) w1):=zAY hd HSZR.out;have HGK:Hid (GK n1 wr w1):=zJl htu HSS.out;have HGA:Hid (GK n1 w1 (w1.alloc (.cells #[.int .i64 r.kind,.string (tx r.target),.int .u64 r.rule,.slice A' n' c',.int .u64 r.out,.int .u64 r.time,.string (tx r.tag)] 45))):=zEj n1 (World.grownBy_alloc w1 _ none);have HTU:=yh htu;have HT1:=yh ht';have HS1:=yh hs';have HNN:=yh hN';have HJ2:=yh (HJ.out _ _ _ (HJ.out _ _ _ HJD.out HGK.out) HGA.out);have hr2:=zAG w1 (.cells #[.int .i64 r.kind,.string (tx r.target),.int .u64 r.rule,.slice A' n' c',.int .u64 r.out,.int .u64 r.time,.string (tx r.tag)] 45);have p0:=zAA (i:=0) hr2 rfl;have p1:=zAA (i:=1) hr2 rfl;have p2:=zAA (i:=2) hr2 rfl;have p3:=zAA (i:=3) hr2 rfl;have p4:=zAA (i:=4) hr2 rfl;have p5:=zAA (i:=5) hr2 rfl;have p6:=zAA (i:=6) hr2 rfl;obtain ⟨fn,tmps,assign,body,hy,hR⟩:=HYC.out (w1.alloc (.cells #[.int .i64 r.kind,.string (tx r.target),.int .u64 r.rule,.slice A' n' c',.int .u64 r.out,.int .u64 r.time,.string (tx r.tag)] 45)) ⟨r,A',n',c',dl⟩ rfl rfl HJ2.out (HD1.out.gk HGA.out);clear hd hN' ht' hs' htu hr2)
   refine hR.mono ?_
   rintro e W3 ⟨rfl,hJ3,hk3⟩
   obtain ⟨S3,ht3,hs3⟩:=zHd HT1.out
   have HT3:=yh ht3
   have hsz1:n1≤w1.heap.size:=Nat.le_trans HSZR.out HTU.out.2.2.2.1
   have HS3:Hid (∀ k,S3 k→n1≤k∧∃ o,w1.heap[k]? = some o∧TabO o∧W3.heap[k]? = some o):=fun k hk =>by
    obtain ⟨h1,o,ho,hto⟩:=hs3 k hk
    refine ⟨(HS1.out k h1).2.elim (fun h =>(HSS.out k h).1) (fun h =>Nat.le_trans HSZR.out h),o,ho,hto,hk3.2 k o ?_ (.inr (.inl hto))⟩
    exact (Below.heap_alloc w1 _ k (zAO ho)).trans ho
   have HTAB3:Hid (Tab W3 S3 bt N' (tabT ver (tbO ver (xs.take i)) r dl)):=ht3.keep fun k hk _ =>by
    obtain ⟨_,o,ho,_,hw3⟩:=HS3.out k hk
    exact hw3.trans ho.symm
   have HTW3:Hid (Turn (fun k =>k=bf∨n1≤k) w W3):=by
    have h1:=HTWr.out.trans (HTU.out.wide (S2:=fun k =>k=bf∨n1≤k) (fun k hk =>.inr (HSS.out k hk).1)) (fun _ _ h =>h)
    have h2:=h1.trans (Turn.of_below (S:=fun k =>k=bf∨n1≤k) ((Below.refl w1.heap.size w1).alloc (Nat.le_refl _) (.cells #[.int .i64 r.kind,.string (tx r.target),.int .u64 r.rule,.slice A' n' c',.int .u64 r.out,.int .u64 r.time,.string (tx r.tag)] 45))) (fun _ _ h =>h)
    exact h2.trans (zOB hk3 (by simp;omega)) (fun _ _ h =>h)
   have HDP3:Hid (∀ y ∈ D++[((⟨r,A',n',c',dl⟩:Rw),nx)],zCI n1 y W3):=fun y hy =>by
    rcases List.mem_append.1 hy with h | h
    ·exact (((HDP.out y h).gk HGK.out).gk HGA.out).kp hk3
    ·obtain rfl:=List.mem_singleton.1 h
     exact (HD1.out.gk HGA.out).kp hk3
   have HJ3:=yh hJ3
   have hatn:atO (xs.take (i+1))=nx:=by
    rw [List.take_add_one,HFX.out]
    show atO (xs.take i++[(r,dl,nx)])=_
    rw [zBv]
   have htbn:tbO ver (xs.take (i+1))=tabT ver (tbO ver (xs.take i)) r dl:=by
    rw [List.take_add_one,HFX.out]
    show tbO ver (xs.take i++[(r,dl,nx)])=_
    rw [zCm]
   have HATN:=yh hatn
   have HTBN:=yh htbn
   clear ht3 hs3 hk3 hJ3 hatn htbn hsz1 p0 p1 p2 p3 p4 p5 p6
   gi_wp2
   go_roundw
   case rel =>
    refine ⟨D++[((⟨r,A',n',c',dl⟩:Rw),nx)],i+1,N',S3,by rw [HATN.out],HLTI.out,?_,HJ3.out,HDP3.out,by have h1:=HNN.out;have h2:=HN.out;omega,by rw [HTBN.out];exact HTAB3.out,fun k hk =>?_,HTW3.out⟩
    ·rw [List.map_append,HD.out,List.take_add_one,HFX.out];rfl
    ·obtain ⟨h1,o,_,h3,h4⟩:=HS3.out k hk
     exact ⟨h1,o,h4,h3⟩
   case measure =>
    show ps.length - nx<ps.length - atO (xs.take i)
    have:=HG1.out
    omega
  ·obtain rfl:i=xs.length:=by have:=HIN.out;omega
   have hta:xs.take xs.length=xs:=List.take_length
   rw [hta] at HTAB HD
   rw [hta]
   have HUPC:=yh (HSTOP.out S bt N nP cP P wr hN2 HLT.out HTAB.out HPW.out HPC.out)
   have hre:(e9 != 0)=true:=by rw [bne_iff_ne];exact he9
   clear hta
   gi_wp2_with (refine ⟨trivial,?_⟩;gi_at_call 44;refine (callsIn_wide.2 HUPC.out).mono ?_;rintro e w1 ⟨A',n',c',S',rfl,hd,⟨N',hN',ht'⟩,hs',htu⟩;have HGK:Hid (GK n1 wr w1):=zJl htu HSS.out;have HGA:Hid (GK n1 w1 (w1.alloc (.cells #[.int .i64 rc0.kind,.string (tx rc0.target),.int .u64 rc0.rule,.slice A' n' c',.int .u64 rc0.out,.int .u64 rc0.time,.string (tx rc0.tag)] 45))):=zEj n1 (World.grownBy_alloc w1 _ none);clear hd hN' ht' hs' htu)
   refine ⟨fun _ h =>(by cases h),?_⟩
   gi_wp2
   refine bodyPost_ret (results_none rfl _ _ _) rfl ?_
   exact ⟨⟨_,rfl⟩,D,⟨HD.out,fun y hy =>((HDP.out y hy).gk HGK.out).gk HGA.out⟩,HJ.out _ _ _ (HJ.out _ _ _ HJD.out HGK.out) HGA.out⟩
theorem zIv {α:Type} {F:Fence} {n:Nat} {P:Program} {g:Operand} {ps:Array Tmp} {assign body:Code} {Q:Exit→Act→World→Prop} {a:Act} {w:World}
  (hro:F.round=none) (h1:1≤n) {gf:Nat} {lb:Array Value} (hg:a.eval g=.func (.func gf) #[] lb) (hFg:F.fn gf) (eg:∀ args w,(callFunc gf args).run P w=.ok (.enter gf args) w)
  {encs:α→Array Value} {T:List α→α→World→Prop} {Kp:World→World→Prop} {S:List α→World→Prop} {G:World→World→Prop} (hGa:∀ A B:World,A.grownBy B none→G A B) (hGo:∀ A B:World,G A B→∀ (k:Nat) (o:Obj),A.heap[k]? = some o→((∃ L,o=.loop L) ∨ ∃ L,o=.deferred L)→B.heap[k]? = some o) (hseq:zLT G F (n - 1) P gf lb encs T Kp S w) (hps:∀ x,(encs x).size=ps.size)
  (hKt:∀ {A B C:World},Kp A B→Kp B C→Kp A C) (hKb:∀ (W:World) (l:Nat) (o o':Obj),w.heap.size≤l→W.heap[l]? = some o→(∃ L,o=.loop L)→Kp W (W.putObj l o'))
  (I:List α→World→Prop) (hT:∀ pre x,Own3 w.heap.size (T pre x)) (hS:∀ xs,Own3 w.heap.size (S xs)) (hI:∀ xs,Own3 w.heap.size (I xs)) (hIg:∀ s A B,I s A→G A B→I s B) (h0:I [] w) (a₁:α→World→Act) (u:α→World→World) (hug:∀ (x:α) (V:World),V.grownBy (u x V) none) (hTg:∀ (pre:List α) (x:α) (A B:World),T pre x A→A.grownBy B none→T pre x B) (hKg:∀ A B:World,w.heap.size≤A.heap.size→A.grownBy B none→Kp A B) (Bx:α→World→World→Prop) (hBx:∀ x V,Bx x V (u x V)) (hBp:∀ x V,Own3 w.heap.size (Bx x V))
  (hassign:∀ (l:Nat) (x:α) (W:World) (K:Act→World→Prop),K (a₁ x W) (u x W) →
   assign.wpIn (F.inRound l) (n - 1 - 1) P (Exit.then K (fun _ _ _ =>False)) { tmps:=(ps.zip (encs x)).foldl (fun t (p,v) =>t.setIfInBounds p v) a.tmps,defers:=[] } W)
  (hbody:∀ (l:Nat) (pre:List α) (x:α) (V W:World),I pre W→T pre x W→Bx x V W→body.wpIn (F.inRound l) (n - 1 - 1) P (fun e _ W' =>e=.normal∧KeepsOthers W W'∧Kp W W'∧I (pre++[x]) W') (a₁ x V) W)
  (hdone:∀ (D:Nat) (xs:List α) (W:World),w.heap.size≤D→S xs W→I xs W→W.heap[D]? = some (.deferred (some []))→Q .normal { a with defers:={ target:=.collected D,args:=#[] } :: a.defers } W) :
  (Code.rangeFunc g ps assign body).wpIn F n P Q a w:=by
 refine wpIn_rangeFunc fun fn hfn =>?_
 rw [hro]
 -- the loop's record,and the world with it
 let L:LoopState→Loop:=fun st =>{ state:=st,pending:=none,fn,tmps:=a.tmps,params:=ps,assign,body,defers:=w.heap.size }
 obtain ⟨b,hb⟩:∃ b,b=w.heap.size:=⟨_,rfl⟩
 obtain ⟨Y,hY⟩:∃ Y,Y=(w.alloc (.deferred (some []))).alloc (.loop (L .ready)):=⟨_,rfl⟩
 have hgY:w.grownBy Y none:=by
  rw [hY]
  exact ⟨rfl,rfl,rfl,by simp;omega,fun k hk _ =>(Below.heap_alloc _ _ _ (by simp;omega)).trans (Below.heap_alloc _ _ _ hk)⟩
 have hYl:Y.heap[b+1]? = some (.loop (L .ready)):=by
  have:=World.alloc_heap_new (w.alloc (.deferred (some []))) (.loop (L .ready))
  rw [World.size_alloc,← hY,← hb] at this
  exact this
 have hYd:Y.heap[b]? = some (.deferred (some [])):=by
  rw [hY,hb]
  exact (Below.heap_alloc _ _ _ (by simp)).trans (World.alloc_heap_new w _)
 refine ⟨b+1,[{ target:=.collected b,args:=#[] }],Y,{ target:=.fn (.func gf) lb,args:=#[.func (.yield (b+1)) #[] #[]] },Y,gf,#[.func (.yield (b+1)) #[] #[]]++lb,Y,
  by rw [hY,hb];exact run_enterLoop_outer _ _ _ _ _,by simp only [resolve,hg];simp [go_sem],fun f' hf' =>by simp [Target.leads] at hf';subst hf';exact hFg,by simp [invoke,go_sem,eg],fun _ =>h1,?_⟩
 have hbelow:Below w.heap.size w Y:=⟨hgY.os,hgY.tape,hgY.output,hgY.size,fun k hk =>hgY.block k hk (by simp)⟩
 refine (hseq (b+1) (fun xs W =>I xs W∧W.heap[b+1]? = some (.loop (L .ready))∧W.heap[b]? = some (.deferred (some []))) Y hbelow
  (fun s A B h hg' =>⟨hIg s A B h.1 hg',hGo A B hg' _ _ h.2.1 (.inl ⟨_,rfl⟩),hGo A B hg' _ _ h.2.2 (.inr ⟨_,rfl⟩)⟩) ?_ ⟨hIg _ _ _ h0 (hGa _ _ hgY),hYl,hYd⟩).mono ?_
 ·-- a round
  rintro pre x V0 ⟨hi0,hl0,hd0⟩ ht0
  have hg:=hug x V0
  obtain ⟨V,hV⟩:∃ V,V=u x V0:=⟨_,rfl⟩
  have hgV:V0.grownBy V none:=by rw [hV];exact hg
  have hi:I pre V:=hIg _ _ _ hi0 (hGa _ _ hgV)
  have hl:V.heap[b+1]? = some (.loop (L .ready)):=(hgV.block _ (Array.getElem?_eq_some_iff.1 hl0).1 (by simp)).trans hl0
  have hd:V.heap[b]? = some (.deferred (some [])):=(hgV.block _ (Array.getElem?_eq_some_iff.1 hd0).1 (by simp)).trans hd0
  have ht:T pre x V:=hTg _ _ _ _ ht0 hgV
  have hK0:Kp V0 V:=hKg _ _ (by have:=(Array.getElem?_eq_some_iff.1 hd0).1;omega) hgV
  have hsz:b+1<V.heap.size:=(Array.getElem?_eq_some_iff.1 hl).1
  obtain ⟨V2,hV2⟩:∃ V2,V2=V.putObj (b+1) (.loop (L .busy)):=⟨_,rfl⟩
  have hl2:V2.heap[b+1]? = some (.loop (L .busy)):=by rw [hV2];exact World.putObj_heap_same hsz
  have hd2:V2.heap[b]? = some (.deferred (some [])):=by rw [hV2];exact (World.putObj_heap_other (by omega)).trans hd
  have hK2:Kp V0 V2:=hKt hK0 (by rw [hV2];exact hKb V (b+1) _ _ (by omega) hl ⟨_,rfl⟩)
  have hi2:I pre V2:=by rw [hV2];exact hI pre V (b+1) _ _ hi (by omega) hl ⟨_,rfl⟩
  have ht2:T pre x V2:=by rw [hV2];exact hT pre x V (b+1) _ _ ht (by omega) hl ⟨_,rfl⟩
  have hx2:Bx x V0 V2:=by rw [hV2];exact hBp x V0 V (b+1) _ _ (by rw [hV];exact hBx x V0) (by omega) hl ⟨_,rfl⟩
  refine ⟨fn,_,assign,body,run_yield (P:=P) (args:=encs x) hl0 (hps x),roundIn_of_wpIn hfn (hassign _ x V0 _ ?_)⟩
  rw [← hV]
  refine ⟨V2,?_,?_⟩
  ·rw [hV2];exact run_beginRound hl rfl
  refine wpIn_mono (hbody (b+1) pre x V0 V2 hi2 ht2 hx2) ?_
  rintro e a3 V3 ⟨rfl,hko,hkp,hi3⟩
  have hl3:=hko.same _ _ hl2 rfl
  have hd3:=hko.same _ _ hd2 rfl
  have hend:=run_endRound (P:=P) none hl3
  refine ⟨_,_,hend,⟨rfl,⟨hI _ V3 (b+1) _ _ hi3 (by omega) hl3 ⟨_,rfl⟩,World.putObj_heap_same (Array.getElem?_eq_some_iff.1 hl3).1,(World.putObj_heap_other (by omega)).trans hd3⟩,hKt (hKt hK2 hkp) (hKb V3 (b+1) _ _ (by omega) hl3 ⟨_,rfl⟩)⟩⟩
 ·-- behind the loop
  rintro e Z ⟨⟨v,rfl⟩,xs,hs,hi,hl,hd⟩
  have hend:=run_endLoop (P:=P) hl (by simp [L])
  refine ⟨none,_,hend,?_⟩
  exact hdone b xs _ (by omega) (hS xs Z (b+1) _ _ hs (by omega) hl ⟨_,rfl⟩) (hI xs Z (b+1) _ _ hi (by omega) hl ⟨_,rfl⟩) ((World.putObj_heap_other (by omega)).trans hd)
open Go.RowKit Go.Shelf
attribute [local go_sem] Oper.semAt_some
theorem zKL:(Tryz.prog.info? 25).map (fun i =>(i.zero,i.size,i.bytes))=some (some (.slice none 0 0),1,24):=by kernel_rfl
theorem zHt {fn:Func} {p q:Tmp} {tp tq:TypeId} (h:fn.results=#[.cell p tp,.cell q tq]) (tmps:Array Value) (P:Program) (w:World) (a b:Addr) (v u:Value)
  (hp:tmps.getD p undef=.pointer (some a)) (hq:tmps.getD q undef=.pointer (some b)) (hv:(loadVar tp a).run P w=.ok v w) (hu:(loadVar tq b).run P w=.ok u w) :
  (results fn tmps).run P w=.ok (.tuple #[v,u]) w:=by
 have hp':tmps[p]?.getD undef=.pointer (some a):=by simpa using hp
 have hq':tmps[q]?.getD undef=.pointer (some b):=by simpa using hq
 simp [results,h,hp',hq',asAddr,hv,hu,Sem.run_bind,Result.andThen]
def RunI (n0:Nat) (ws:World) (pre:List Got) (W:World):Prop :=
 (∃ v1,Boxed W n0 59 v1∧W.ownsRow (n0+4) 25 1 v1 pre.length (pre.map (·.1))) ∧
 (∃ v2,Boxed W (n0+1) 29 v2∧W.ownsRow (n0+4) 3 1 v2 pre.length (pre.map fun x =>tn x.2))∧Below n0 ws W∧n0+4≤W.heap.size
theorem RunI.put {n0:Nat} {ws:World} {pre:List Got} {W:World} (h:RunI n0 ws pre W) {l:Nat} {o:Obj} (o':Obj) (hl:n0+4≤l) (ho:W.heap[l]? = some o) (hc:o.isCells=false):RunI n0 ws pre (W.putObj l o'):=by
 obtain ⟨⟨v1,h1,h2⟩,⟨v2,h3,h4⟩,h5,h6⟩:=h
 refine ⟨⟨v1,h1.kept (grownBy_putObj' W l o') (by simp;omega),ownsRow_putObj h2 o' ho hc⟩,⟨v2,h3.kept (grownBy_putObj' W l o') (by simp;omega),ownsRow_putObj h4 o' ho hc⟩,
  h5.grown (grownBy_putObj' W l o') (by omega) (fun k e =>by cases e;omega),by simpa using h6⟩
theorem RunI.grow {n0:Nat} {ws:World} {pre:List Got} {W W':World} (h:RunI n0 ws pre W) (hg:W.grownBy W' none):RunI n0 ws pre W':=by
 obtain ⟨⟨v1,h1,h2⟩,⟨v2,h3,h4⟩,h5,h6⟩:=h
 have hb:Below W.heap.size W W':=⟨hg.os,hg.tape,hg.output,hg.size,fun k hk =>hg.block k hk (by simp)⟩
 exact ⟨⟨v1,h1.kept hg (by simp),zAF h2 hb⟩,⟨v2,h3.kept hg (by simp),zAF h4 hb⟩,h5.trans (hb.mono (by omega)),Nat.le_trans h6 hg.size⟩
theorem zEe (W:World) (b:Nat) (v:Value):(W.setCell ⟨b,0,none⟩ v).heap.size=W.heap.size:=by simp
theorem zCr {n0:Nat} {W W':World} {row:Option Nat} (hg:W.grownBy W' row) (hn0:n0≤W.heap.size)
  (hr:∀ r,row=some r→n0≤r∧r≠n0+2∧r≠n0+3∧∃ (cs:Array Value) (e:TypeId) (f:Nat×Nat),W.heap[r]? = some (.cells cs e f)∧e≠5):Kp n0 W W'∧KeepsOthers W W' :=
 ⟨zOC hg hn0 hr,KeepsOthers.of_grownBy hg (fun j o e ho =>by
  obtain ⟨_,_,_,cs,e2,f,h4,_⟩:=hr j e
  rw [ho] at h4
  injection h4 with h4
  subst h4
  rfl)⟩
theorem zPh {n0:Nat} {ws W w1:World} {v1 v2 v':Value} {n m:Nat} {xs ys xs':List Value} {tmp:Obj}
  (h1:Boxed W n0 59 v1) (h2:W.ownsRow (n0+4) 25 1 v1 n xs) (h3:Boxed W (n0+1) 29 v2) (h4:W.ownsRow (n0+4) 3 1 v2 m ys) (h5:Below n0 ws W) (h6:n0+4≤W.heap.size)
  (hown:w1.ownsRow (n0+4) 25 1 v' (n+1) xs') (hg:(W.alloc tmp).grownBy w1 v1.ownBlock) :
  Boxed w1 n0 59 v1∧Boxed (w1.setCell ⟨n0,0,none⟩ v') n0 59 v'∧(w1.setCell ⟨n0,0,none⟩ v').ownsRow (n0+4) 25 1 v' (n+1) xs' ∧
  Boxed (w1.setCell ⟨n0,0,none⟩ v') (n0+1) 29 v2∧(w1.setCell ⟨n0,0,none⟩ v').ownsRow (n0+4) 3 1 v2 m ys ∧
  Kp n0 W (w1.setCell ⟨n0,0,none⟩ v')∧KeepsOthers W (w1.setCell ⟨n0,0,none⟩ v')∧n0+4≤(w1.setCell ⟨n0,0,none⟩ v').heap.size∧Below n0 ws (w1.setCell ⟨n0,0,none⟩ v'):=by
 have b1:Boxed w1 n0 59 v1:=(h1.alloc tmp).kept hg (h1.not_row (by decide) h2)
 have b2:Boxed w1 (n0+1) 29 v2:=(h3.alloc tmp).kept hg (h3.not_row (by decide) h2)
 have o2:w1.ownsRow (n0+4) 3 1 v2 m ys:=zAk (h2.alloc tmp) (h4.alloc tmp) (by decide) hg
 have hgs:=grownBy_setCell' w1 n0 v'
 have k1:=zCr (n0:=n0) (World.grownBy_alloc W tmp none) (by omega) (by simp)
 have k2:=zCr (n0:=n0) hg (by simp;omega) (fun r e =>by
  rcases (h2.alloc tmp).2 with ⟨rfl,_⟩ | ⟨g,cap,cur,rfl,hb,hh,_⟩
  ·simp [Value.ownBlock] at e
  ·simp only [Value.ownBlock,Option.some.injEq] at e
   subst e
   exact ⟨by omega,by omega,by omega,_,_,_,hh,by decide⟩)
 have hs1:n0+4≤w1.heap.size:=by have:=hg.size;simp at this;omega
 have k3:=zCr (n0:=n0) hgs (by omega) (fun r e =>by cases e;exact ⟨Nat.le_refl _,by omega,by omega,_,_,_,b1,by decide⟩)
 have hk:=(k1.1.trans k2.1).trans k3.1
 refine ⟨b1,b1.set v',ownsRow_setCell_below hown (by simp) v',b2.kept hgs (by simp),ownsRow_setCell_below o2 (by simp) v',hk,(k1.2.trans k2.2).trans k3.2,by have:=hgs.size;omega,h5.trans hk.1⟩
theorem zPO {n0:Nat} {ws W w1:World} {v1 v2 v':Value} {n m:Nat} {xs ys ys':List Value} {tmp:Obj}
  (h1:Boxed W n0 59 v1) (h2:W.ownsRow (n0+4) 25 1 v1 n xs) (h3:Boxed W (n0+1) 29 v2) (h4:W.ownsRow (n0+4) 3 1 v2 m ys) (h5:Below n0 ws W) (h6:n0+4≤W.heap.size)
  (hown:w1.ownsRow (n0+4) 3 1 v' (m+1) ys') (hg:(W.alloc tmp).grownBy w1 v2.ownBlock) :
  Boxed w1 (n0+1) 29 v2∧Boxed (w1.setCell ⟨n0+1,0,none⟩ v') (n0+1) 29 v'∧(w1.setCell ⟨n0+1,0,none⟩ v').ownsRow (n0+4) 3 1 v' (m+1) ys' ∧
  Boxed (w1.setCell ⟨n0+1,0,none⟩ v') n0 59 v1∧(w1.setCell ⟨n0+1,0,none⟩ v').ownsRow (n0+4) 25 1 v1 n xs ∧
  Kp n0 W (w1.setCell ⟨n0+1,0,none⟩ v')∧KeepsOthers W (w1.setCell ⟨n0+1,0,none⟩ v')∧n0+4≤(w1.setCell ⟨n0+1,0,none⟩ v').heap.size∧Below n0 ws (w1.setCell ⟨n0+1,0,none⟩ v'):=by
 have b1:Boxed w1 n0 59 v1:=(h1.alloc tmp).kept hg (h1.not_row (by decide) h4)
 have b2:Boxed w1 (n0+1) 29 v2:=(h3.alloc tmp).kept hg (h3.not_row (by decide) h4)
 have o2:w1.ownsRow (n0+4) 25 1 v1 n xs:=zAk (h4.alloc tmp) (h2.alloc tmp) (by decide) hg
 have hgs:=grownBy_setCell' w1 (n0+1) v'
 have k1:=zCr (n0:=n0) (World.grownBy_alloc W tmp none) (by omega) (by simp)
 have k2:=zCr (n0:=n0) hg (by simp;omega) (fun r e =>by
  rcases (h4.alloc tmp).2 with ⟨rfl,_⟩ | ⟨g,cap,cur,rfl,hb,hh,_⟩
  ·simp [Value.ownBlock] at e
  ·simp only [Value.ownBlock,Option.some.injEq] at e
   subst e
   exact ⟨by omega,by omega,by omega,_,_,_,hh,by decide⟩)
 have hs1:n0+4≤w1.heap.size:=by have:=hg.size;simp at this;omega
 have k3:=zCr (n0:=n0) hgs (by omega) (fun r e =>by cases e;exact ⟨by omega,by omega,by omega,_,_,_,b2,by decide⟩)
 have hk:=(k1.1.trans k2.1).trans k3.1
 refine ⟨b2,b2.set v',ownsRow_setCell_below hown (by simp) v',b1.kept hgs (by simp),ownsRow_setCell_below o2 (by simp) v',hk,(k1.2.trans k2.2).trans k3.2,by have:=hgs.size;omega,h5.trans hk.1⟩
theorem zOz (A:Option Addr) (m c:Nat) (a0:Int) (w:World) (n0:Nat) (hn0:n0=w.heap.size) (F:List (List UInt8×Nat))
    (hseq:∀ W:World,Below n0 w W→W.heap[n0+2]? = some (.cells #[.slice A m c] 25)→W.heap[n0+3]? = some (.cells #[.int .i64 a0] 3) →
      zKG Fence.wide 3 Tryz.prog 58 #[.pointer (some ⟨n0+3,0,none⟩),.pointer (some ⟨n0+2,0,none⟩)] gotv (GotT n0) (Kp n0) (GotS n0 F) W) :
    Calls Tryz.prog 20 #[.slice A m c,.int .i64 a0] w fun e w' =>∃ (v1 v2:Value) (xs:List Got),e=.returned (.tuple #[v1,v2])∧xs.map (·.2)=F∧(∀ x ∈ xs,Mine w' n0 x.1 x.2.1) ∧
      w'.ownsRow (n0+4) 25 1 v1 xs.length (xs.map (·.1))∧w'.ownsRow (n0+4) 3 1 v2 xs.length (xs.map fun x =>tn x.2)∧Below n0 w w':=by
  obtain ⟨ib,hb,hb0,hb1,hb2⟩:=info_parts zKL
  obtain ⟨ii,hi,hi0,hi1,hi2⟩:=info_parts zDv
  have HSEQ:=yh hseq
  clear hseq
  refine (callsIn_wide (n:=4)).1 ?_
  refine callsIn_of_wp_marks Tryz.func20 rfl trivial ?_ rfl
  refine wpIn_wide.2 ?_
  simp only [Tryz.ntmps20,List.size_toArray,List.length_cons,List.length_nil,Nat.reduceAdd,Nat.reduceSub,Array.replicate_succ,Array.replicate_zero,List.push_toArray,List.append_toArray,List.nil_append,List.cons_append]
  go_wp2_with (go_at_call 42;refine (zKB A m c a0 _).mono ?_;rintro e w' ⟨rfl,rfl⟩)
  obtain ⟨W0,hW0⟩:∃ W0,W0=(((w.alloc (.cells #[.slice none 0 0] 59)).alloc (.cells #[.slice none 0 0] 29)).alloc (.cells #[.slice A m c] 25)).alloc (.cells #[.int .i64 a0] 3):=⟨_,rfl⟩
  rw [← hW0]
  have hsz:W0.heap.size=n0+4:=by rw [hW0,hn0];simp
  have hB0:Below n0 w W0:=by
    rw [hW0,hn0]
    exact ((((Below.refl _ w).alloc (Nat.le_refl _) _).alloc (by simp) _).alloc (by simp;omega) _).alloc (by simp;omega) _
  have b1:Boxed W0 n0 59 (.slice none 0 0):=by
    rw [hW0,hn0]
    exact (((Boxed.new w 59 (.slice none 0 0)).alloc _).alloc _).alloc _
  have b2:Boxed W0 (n0+1) 29 (.slice none 0 0):=by
    have h:=((Boxed.new (w.alloc (.cells #[.slice none 0 0] 59)) 29 (.slice none 0 0)).alloc (.cells #[.slice A m c] 25)).alloc (.cells #[.int .i64 a0] 3)
    rw [← hW0,World.size_alloc,← hn0] at h
    exact h
  have b3:W0.heap[n0+2]? = some (.cells #[.slice A m c] 25):=by
    have h:=(Boxed.new ((w.alloc (.cells #[.slice none 0 0] 59)).alloc (.cells #[.slice none 0 0] 29)) 25 (.slice A m c)).alloc (.cells #[.int .i64 a0] 3)
    rw [← hW0,World.size_alloc,World.size_alloc,← hn0] at h
    exact h
  have b4:W0.heap[n0+3]? = some (.cells #[.int .i64 a0] 3):=by
    have h:=Boxed.new (((w.alloc (.cells #[.slice none 0 0] 59)).alloc (.cells #[.slice none 0 0] 29)).alloc (.cells #[.slice A m c] 25)) 3 (.int .i64 a0)
    rw [← hW0,World.size_alloc,World.size_alloc,World.size_alloc,← hn0] at h
    exact h
  have hseq:=HSEQ.out W0 hB0 b3 b4
  have hw0:w.heap.size=n0:=hn0.symm
  rw [hw0]
  have HSZ:=yh hsz
  have hszle:n0+4≤W0.heap.size:=by omega
  clear HSEQ hW0 b3 b4 hw0 hn0 hsz
  refine (wpIn_wide (n:=4)).1 ?_
  refine zKI rfl (by omega) (gf:=58) (lb:=#[.pointer (some ⟨n0+3,0,none⟩),.pointer (some ⟨n0+2,0,none⟩)]) rfl trivial (enters_of Tryz.func58 (by kernel_rfl) rfl)
    hseq (fun _ =>rfl) (fun h k =>h.trans k) ?kb (RunI n0 w) ?hT ?hS ?hI (fun _ _ _ h hg =>h.grow hg) ⟨⟨_,b1,World.ownsRow_nil _ _ _ _⟩,⟨_,b2,World.ownsRow_nil _ _ _ _⟩,hB0,hszle⟩
    (fun x =>{ tmps:=#[.slice A m c,.int .i64 a0,undef,undef,.pointer (some ⟨n0,0,none⟩),.pointer (some ⟨n0+1,0,none⟩),x.1,.int .i64 (x.2.2:Int),.slice A m c,.int .i64 a0,.func (.func 58) #[] #[.pointer (some ⟨n0+1+1+1,0,none⟩),.pointer (some ⟨n0+1+1,0,none⟩)],x.1,.int .i64 (x.2.2:Int),undef,undef,undef,undef,undef,undef,undef,undef,undef,undef],defers:=[] }) ?assign ?body ?done
  case kb =>
    intro W l o o' hl ho hc
    refine ⟨(Below.refl n0 W).grown (grownBy_putObj' W l o') (by have:=(Array.getElem?_eq_some_iff.1 ho).1;omega) (fun k e =>by cases e;omega),fun k p hk hcs =>?_⟩
    rcases hcs with h | h | h | ⟨cs,f,rfl⟩
    · exact zDs (n0:=n0) o' (by omega) ho hc k p hk (.inl h)
    · exact zDs (n0:=n0) o' (by omega) ho hc k p hk (.inr (.inl h))
    · exact zDs (n0:=n0) o' (by omega) ho hc k p hk (.inr (.inr (.inl h)))
    · exact zDs (n0:=n0) o' (by omega) ho hc k _ hk (.inr (.inr (.inr rfl)))
  case hT =>
    intro pre x W l o o' h hl ho hc
    exact ⟨h.1,h.2.keep fun g cs f _ hg =>(zDs (n0:=n0) o' (by omega) ho hc g _ hg (.inr (.inr (.inr rfl)))).trans hg.symm⟩
  case hS =>
    intro xs W l o o' h hl ho hc
    exact ⟨h.1,fun x hx =>(h.2 x hx).keep fun g cs f _ hg =>(zDs (n0:=n0) o' (by omega) ho hc g _ hg (.inr (.inr (.inr rfl)))).trans hg.symm⟩
  case hI =>
    intro xs W l o o' h hl ho hc
    exact h.put o' (by omega) ho hc
  case assign =>
    intro l x W K hK
    unfold gotv
    gi_wp2
    simpa using hK
  case body =>
    rintro l pre ⟨v,p,nx⟩ W ⟨⟨v1,h1,h2⟩,⟨v2,h3,h4⟩,h5,h6⟩ ⟨hlen,hm⟩
    simp only at hm
    obtain ⟨A2,c2,rfl,-⟩:=hm.reads
    have hc1:=h1.cell
    have hf1:=h1.frozen
    dsimp only
    gi_wp2_with (first
      | (gi_at_builtin;refine wpListIn_append_own _ rfl (.tmp 13) (.tmp 15) 59 rfl (n0+4) 25 ib (.slice none 0 0) 1 24 Tryz.underlying59 hb hb0 hb1 hb2 rfl (by decide) _ _ _ rfl (h2.alloc _) ⟨W.heap.size,0,none⟩ 1 1 [.slice A2 p.length c2] rfl rfl (cell_one_new _ _ _) (by simp [Value.oneCell']) (by unfold maxLen;omega) (by omega) (by simp;omega) ?_
         intro v' w1 hown1 hgrow1 _
         obtain ⟨g',cap',rfl⟩:=ownsRow_succ hown1
         have hkA:=zPh h1 h2 h3 h4 h5 h6 hown1 hgrow1
         have hd1:=hkA.1.cell
         have hd2:=hkA.1.frozen
         have hd3:=hkA.2.2.2.1.cell
         have hd4:=hkA.2.2.2.1.frozen
         clear hc1 hf1)
      | (gi_at_builtin;refine wpListIn_append_own _ rfl (.tmp 17) (.tmp 19) 29 rfl (n0+4) 3 ii (.int .i64 0) 1 8 Tryz.underlying29 hi hi0 hi1 hi2 rfl (by decide) _ _ _ rfl (hkA.2.2.2.2.1.alloc _) ⟨w1.heap.size,0,none⟩ 1 1 [.int .i64 (nx:Int)] rfl rfl (by have h:=cell_one_new (w1.setCell ⟨n0,0,none⟩ (.slice (some ⟨g',0,none⟩) (pre.length+1) cap')) (.int .i64 (nx:Int)) 3;rwa [(zEe w1 n0 _)] at h) (by simp [Value.oneCell']) (by unfold maxLen;omega) (by omega) (by have:=hkA.2.2.2.2.2.2.2.1;simp at *;omega) ?_
         intro v'' w2 hown2 hgrow2 _
         obtain ⟨g'',cap'',rfl⟩:=ownsRow_succ hown2
         have hkB:=zPO hkA.2.1 hkA.2.2.1 hkA.2.2.2.1 hkA.2.2.2.2.1 hkA.2.2.2.2.2.2.2.2 hkA.2.2.2.2.2.2.2.1 hown2 hgrow2
         have he1:=hkB.1.cell
         have he2:=hkB.1.frozen
         clear hd3 hd4))
    refine ⟨hkA.2.2.2.2.2.2.1.trans hkB.2.2.2.2.2.2.1,hkA.2.2.2.2.2.1.trans hkB.2.2.2.2.2.1,⟨_,hkB.2.2.2.1,?_⟩,⟨_,hkB.2.1,?_⟩,hkB.2.2.2.2.2.2.2.2,hkB.2.2.2.2.2.2.2.1⟩
    · simpa using hkB.2.2.2.2.1
    · simpa [tn] using hkB.2.2.1
  case done =>
    rintro D xs W hD ⟨hxs,hms⟩ ⟨⟨v1,h1,h2⟩,⟨v2,h3,h4⟩,h5,h6⟩ hK
    have hc1:=h1.cell
    have hf1:=h1.frozen
    have hc2:=h3.cell
    have hf2:=h3.frozen
    obtain ⟨A1,d1,rfl,-⟩:=zBE h2
    obtain ⟨A2,d2,rfl,-⟩:=zBE h4
    have HMS:=yh hms
    have HXS:=yh hxs
    clear hms hxs
    go_wp2
    go_region
    all_goals (try go_wp2)
    obtain ⟨W5,hW5⟩:∃ W5,W5=((W.setCell ⟨n0,0,none⟩ (.slice A1 xs.length d1)).setCell ⟨n0+1,0,none⟩ (.slice A2 xs.length d2)).drew:=⟨_,rfl⟩
    rw [← hW5]
    have hkeep:∀ k:Nat,k≠n0→k≠n0+1→W5.heap[k]? = W.heap[k]?:=by
      intro k e1 e2
      rw [hW5]
      exact (Below.heap_setCell _ _ _ k e2).trans (Below.heap_setCell _ _ _ k e1)
    have g1:Boxed W5 n0 59 (.slice A1 xs.length d1):=by
      rw [hW5]
      exact (Below.heap_setCell _ _ _ n0 (by simp)).trans (h1.set _)
    have g2:Boxed W5 (n0+1) 29 (.slice A2 xs.length d2):=by
      rw [hW5]
      exact (h3.kept (grownBy_setCell' W n0 _) (by simp)).set _
    have hb5:Below n0 W W5:=by
      rw [hW5]
      exact (((Below.refl n0 W).setCell (p:=⟨n0,0,none⟩) (Nat.le_refl _) _).setCell (p:=⟨n0+1,0,none⟩) (by simp) _).drew
    have hK5:W5.heap[D]? = some (.deferred (some [])):=(hkeep D (by omega) (by omega)).trans hK
    have r1:W5.ownsRow (n0+4) 25 1 (.slice A1 xs.length d1) xs.length (xs.map (·.1)):=by
      rw [hW5]
      exact ownsRow_setCell_below (ownsRow_setCell_below h2 (by simp) _) (by simp) _
    have r2:W5.ownsRow (n0+4) 3 1 (.slice A2 xs.length d2) xs.length (xs.map fun x =>tn x.2):=by
      rw [hW5]
      exact ownsRow_setCell_below (ownsRow_setCell_below h4 (by simp) _) (by simp) _
    have hm5:∀ x ∈ xs,Mine W5 n0 x.1 x.2.1:=fun x hx =>(HMS.out x hx).keep fun g cs f _ hg =>hkeep g
      (fun e =>by subst e;rw [show W.heap[g]? = _ from h1] at hg;injection hg with hg;injection hg with _ hg;cases hg)
      (fun e =>by subst e;rw [show W.heap[n0+1]? = _ from h3] at hg;injection hg with hg;injection hg with _ hg;cases hg)
    have gg:=grownBy_putObj' W5 D (.deferred none)
    refine ⟨by simp,.inl ⟨_,_,rfl,run_takeDeferred hK5,?_⟩⟩
    have p1:Boxed (W5.putObj D (.deferred none)) n0 59 (.slice A1 xs.length d1):=g1.kept gg (by simp;omega)
    have p2:Boxed (W5.putObj D (.deferred none)) (n0+1) 29 (.slice A2 xs.length d2):=g2.kept gg (by simp;omega)
    have q1:=p1.cell
    have q2:=p2.cell
    refine ⟨_,zHt rfl _ _ _ ⟨n0,0,none⟩ ⟨n0+1,0,none⟩ (.slice A1 xs.length d1) (.slice A2 xs.length d2) rfl rfl (by simp [loadVar,go_sem,q1]) (by simp [loadVar,go_sem,q2]),_,_,xs,rfl,HXS.out,?_,ownsRow_putObj r1 _ hK5 rfl,ownsRow_putObj r2 _ hK5 rfl,
      (h5.trans hb5).grown gg (by have:=hb5.size;omega) (fun k e =>by cases e;omega)⟩
    exact fun x hx =>(hm5 x hx).keep fun g cs f _ hg =>(zDs (n0:=n0) _ (by omega) hK5 rfl g _ hg (.inr (.inr (.inr rfl)))).trans hg.symm
theorem zPY (A:Option Addr) (m c a0:Nat) (bs:List UInt8) (hc:m≤c) (hm:m≤1073741824) (ha0:a0≤m) (w:World) (hl:Laid w) (hr:zAE w w.heap.size 1 A m (bs.map bv)) :
  Calls Tryz.prog 20 #[.slice A m c,.int .i64 (a0:Int)] w fun e w' =>∃ (v1 v2:Value) (xs:List Got),e=.returned (.tuple #[v1,v2])∧xs.map (·.2)=frun (m+1) a0 bs∧(∀ x ∈ xs,Mine w' w.heap.size x.1 x.2.1) ∧
   w'.ownsRow (w.heap.size+4) 25 1 v1 xs.length (xs.map (·.1))∧w'.ownsRow (w.heap.size+4) 3 1 v2 xs.length (xs.map fun x =>tn x.2)∧Below w.heap.size w w' :=
 zOz A m c a0 w _ rfl _ fun W hb h1 h2 =>zIY 3 _ (by omega) A m c a0 bs hc hm ha0 _ rfl w rfl hl hr W hb h1 h2
end Go.Proofs.YtoclafdidjpndaaGreatDoor
