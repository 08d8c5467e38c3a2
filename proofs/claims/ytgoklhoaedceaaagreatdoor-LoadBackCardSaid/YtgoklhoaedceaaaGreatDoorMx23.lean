/- Texts of one proof. -/
import Derived.Deep.CutRange
import Derived.Test.YtgoklhoaedceaaaGreatDoorMx21
import Derived.Test.YtgoklhoaedceaaaGreatDoorMx22
set_option maxRecDepth 100000
set_option maxHeartbeats 8000000
namespace Go.Proofs.YtgoklhoaedceaaaGreatDoor
open Go.RowKit
def dq (a b:List UInt8):Dp:=⟨(eget a).1,((rans (cutO b).1).1:Int),(cutO b).2⟩
def dok (a b:List UInt8):Bool:=(eget a).2 && (rans (cutO b).1).2
def dqs:List (List UInt8)→List Dp
 | a :: b :: r =>dq a b :: dqs r
 | _ =>[]
def doks:List (List UInt8)→Bool
 | a :: b :: r =>dok a b && doks r
 | _ =>true
theorem zFB:∀ (ws:List (List UInt8)) (l:List Dp),dpsO ws=some l→dqs ws=l∧doks ws=true∧ws.length % 2=0
 | [],l,h =>by
  injection h with h
  subst h
  exact ⟨rfl,rfl,rfl⟩
 | [_],l,h =>by cases h
 | a :: b :: r,l,h =>by
  rw [dpsO] at h
  cases hd:dpO a b with
  | none =>rw [hd] at h;cases h
  | some d =>
   rw [hd] at h
   cases hr:dpsO r with
   | none =>rw [hr] at h;cases h
   | some l2 =>
    rw [hr] at h
    injection h with h
    subst h
    obtain ⟨h1,h2,h3⟩:=zFB r l2 hr
    unfold dpO at hd
    split at hd
    ·rename_i hc
     injection hd with hd
     refine ⟨?_,?_,?_⟩
     ·rw [dqs,h1,← hd];rfl
     ·rw [doks,h2,dok,hc.1,hc.2];rfl
     ·simp only [List.length_cons];omega
    ·cases hd
theorem zKo {ws:List (List UInt8)} {p:Rc×List Dp} (h:lnO ws=some p):ws.length % 2=1:=by
 match ws,h with
 | t :: u :: o :: m :: g :: r,h =>
  simp only [lnO] at h
  split at h
  ·cases hr:dpsO r with
   | none =>rw [hr] at h;cases h
   | some l =>
    have:=(zFB r l hr).2.2
    simp only [List.length_cons];omega
  ·cases h
 | [],h =>simp [lnO] at h
 | [_],h =>simp [lnO] at h
 | [_,_],h =>simp [lnO] at h
 | [_,_,_],h =>simp [lnO] at h
 | [_,_,_,_],h =>simp [lnO] at h
theorem zAy.parts {line t u o q s:List UInt8} {rest:List (List UInt8)} {r:Rc} {l:List Dp} (h:zAy line r l) (hw:words line=t :: u :: o :: q :: s :: rest) :
  r=⟨1,(eget t).1,((rans u).1:Int),((rans o).1:Int),r.time,(eget s).1⟩∧l=dqs rest∧(eget t).2=true∧(rans u).2=true∧(rans o).2=true∧(eget s).2=true∧doks rest=true∧0≤r.time∧r.time<18446744073709551616∧q=Lib.decDigits r.time.toNat:=by
 have h1:=h.read
 rw [hw] at h1
 simp only [lnO] at h1
 split at h1
 ·rename_i hc
  cases hr:dpsO rest with
  | none =>rw [hr] at h1;cases h1
  | some l2 =>
   rw [hr] at h1
   injection h1 with h1
   injection h1 with h1 h2
   obtain ⟨d1,d2,_⟩:=zFB rest l2 hr
   have h3:=h.2.1.2.2.1
   have h4:words line=zAu r.target r.rule.toNat r.out.toNat r.time.toNat r.tag l:=by
    rw [← h.2.2.2.2]
    exact zDB _ (zFd _ _ _ _ _ _) (fun w hw b hb =>zGp hw b hb)
   rw [hw] at h4
   have h5:q=Lib.decDigits r.time.toNat:=by
    have:=congrArg (fun ws =>ws[3]?) h4
    simpa [zAu,zAi] using this
   refine ⟨?_,by rw [d1];exact h2.symm,hc.1,hc.2.1,hc.2.2.1,hc.2.2.2.2,d2,h3.1,h3.2,h5⟩
   rw [← h1]
 ·cases h1
theorem zAp {B:Nat} {w w':World} {b i:Nat} {v:Value} (h:Below B w w') (hb:b<B) (hc:w.cell? ⟨b,i,none⟩=some v):w'.cell? ⟨b,i,none⟩=some v:=by
 have h1:=h.block b hb
 unfold World.cell? at hc ⊢
 rw [h1]
 exact hc
structure RtSt (w2:World) (gr m zq:Nat) (t u o s:List UInt8) (ws rest:List (List UInt8)) (ba:Bool) (i:Nat) (tl:List (List UInt8)) (acc:List Dp) (cur:Bool) (wr:World):Prop where
 at_:dqs rest=acc++dqs tl
 ok:(ba && doks rest)=(cur && doks tl)
 here:∀ (k:Nat) (x:List UInt8),tl[k]? = some x→ws[i+k]? = some x
 len:tl.length+i=m
 even:tl.length % 2=0
 five:5≤i
 box:∃ Av cv,wr.heap[gr]? = some (.cells #[.int .i64 1,.string (tx (eget t).1),.int .u64 ((rans u).1:Int),.slice Av acc.length cv,.int .u64 ((rans o).1:Int),.int .u64 (zq:Int),.string (tx (eget s).1)] 37 (0,0))∧wr.ownsRow (gr+2) 73 3 (.slice Av acc.length cv) acc.length (dps acc)∧gr+2≤wr.heap.size
 b:Below w2.heap.size w2 wr
 few:2 * acc.length+tl.length≤5000
 dp:∀ d ∈ acc,d.name.length≤5000∧0≤d.hash∧d.hash<18446744073709551616
theorem zBr {w:World} {ops:Array Oper} {rest:List Oper} {o:Oper} {a:Act} {Q:Exit→Act→World→Prop} (hgd:o.guard=none) (x y:Operand) (ho:o.op=.store 35 x y) (g:Nat) (c0 c1 c2 c3 c4 c5 c6:Value) (A:Option Addr) (n c:Nat)
  (hx:a.eval x=.pointer (some ⟨g,3,none⟩)) (hy:a.eval y=.slice A n c) (hg:w.heap[g]? = some (.cells #[c0,c1,c2,c3,c4,c5,c6] 37 (0,0)))
  (h:∀ w',w'.heap[g]? = some (.cells #[c0,c1,c2,.slice A n c,c4,c5,c6] 37 (0,0))→w.grownBy w' (some g)→wpList Tryz.prog ops Q rest (a.put o.dst undef) w'):wpList Tryz.prog ops Q (o :: rest) a w :=
 wpList_plain hgd fun _ hK =>zBy x y ho g c0 c1 c2 c3 c4 c5 c6 A n c hx hy hg (fun w' h1 h2 =>hK _ _ (h w' h1 h2))
theorem zDo {a b:List UInt8} (ha:a.length≤5000):(dq a b).name.length≤5000∧0≤(dq a b).hash∧(dq a b).hash<18446744073709551616:=by
 refine ⟨Nat.le_trans (zCb a) ha,by show (0:Int)≤((rans (cutO b).1).1:Int);omega,?_⟩
 show ((rans (cutO b).1).1:Int)<18446744073709551616
 have:(rans (cutO b).1).1<18446744073709551616:=by
  cases h:(rans (cutO b).1).2 with
  | true =>exact zDD h
  | false =>
   unfold rans at h ⊢
   split
   ·rename_i h16
    rw [if_pos h16] at h
    cases hr:rd 0 (cutO b).1 with
    | none =>show (0:Nat)<_;omega
    | some n =>rw [hr] at h;cases h
   ·show (0:Nat)<_;omega
 omega
theorem zGe (w:List UInt8):(rans w).1<18446744073709551616:=by
 cases h:(rans w).2 with
 | true =>exact zDD h
 | false =>
  unfold rans at h ⊢
  split
  ·rename_i h16
   rw [if_pos h16] at h
   cases hr:rd 0 w with
   | none =>show (0:Nat)<_;omega
   | some n =>rw [hr] at h;cases h
  ·show (0:Nat)<_;omega
theorem zBJ {P:Program} {fn:Func} {u p:Tmp} {ty:TypeId} (h:fn.results=#[.cell p ty,.tmp u]) (tmps:Array Value) (w:World) (g:Nat) (t:TypeId) (cs:Array Value) (fr:Nat×Nat) (d:TypeDesc)
  (hp:tmps.getD p undef=.pointer (some ⟨g,0,none⟩)) (hg:w.heap[g]? = some (.cells cs t fr))
  (hu:P.underlying ty=some d) (hd:(match d with | .struct _ | .array _ _ =>true | _ =>false)=true) (hi:(P.info? ty).map (·.size)=some cs.size) :
  (results fn tmps).run P w=.ok (.tuple #[.agg cs,tmps.getD u undef]) w:=by
 have hp':tmps[p]?.getD undef=.pointer (some ⟨g,0,none⟩):=by simpa using hp
 simp [results,h,hp',asAddr,run_loadVar_row w g t ty cs fr d hg hu hd hi]
theorem zFl (line:List UInt8) (hl:line.length≤5000) (w:World) :
  Calls Tryz.prog 15 #[.string (tx line)] w (zDL line w):=by
 have hz:=zAI w (.cells #[.int .i64 0,.string ⟨#[]⟩,.int .u64 0,.slice none 0 0,.int .u64 0,.int .u64 0,.string ⟨#[]⟩] 37)
 have hb1:=(Below.refl w.heap.size w).alloc (Nat.le_refl _) (.cells #[.int .i64 0,.string ⟨#[]⟩,.int .u64 0,.slice none 0 0,.int .u64 0,.int .u64 0,.string ⟨#[]⟩] 37)
 obtain ⟨w1,hw1⟩:∃ x,x=w.alloc (.cells #[.int .i64 0,.string ⟨#[]⟩,.int .u64 0,.slice none 0 0,.int .u64 0,.int .u64 0,.string ⟨#[]⟩] 37):=⟨_,rfl⟩
 rw [← hw1] at hz hb1
 have HWD:=yh (zIC line (by omega) w1)
 have HW1:=yh hw1
 have HZ:=yh hz
 have HB1:=yh hb1
 obtain ⟨id0,hid0,hd0,hd1,hd2⟩:=info_parts (show (Tryz.prog.info? 73).map (fun i =>(i.zero,i.size,i.bytes))=some (some (.agg #[.string ⟨#[]⟩,.int .u64 0,.bool false]),3,32) from by kernel_rfl)
 obtain ⟨ws,hws⟩:∃ ws,ws=words line:=⟨_,rfl⟩
 rw [← hws] at HWD
 have HWS:=yh hws
 have hwl:=zCz line.length line (Nat.le_refl _)
 obtain ⟨m,hm⟩:∃ m,m=ws.length:=⟨_,rfl⟩
 rw [← hm] at HWD
 have hm5:m≤5001:=by rw [hm,hws];omega
 have HML:=yh hm
 clear hw1 hz hb1 hws hwl hm
 go_enter Tryz.func15,Tryz.ntmps15
 go_wp2_with fail
 rw [← HW1.out]
 refine HWD.out.mono ?_
 rintro e w2 ⟨v,rfl,ho2,hb2⟩
 obtain ⟨A0,c0,rfl,hA0⟩:=zAL ho2
 have HO2:=yh ho2
 have HB2:=yh (HB1.out.trans (hb2.mono HB1.out.size))
 have HZ2:=yh ((hb2.block w.heap.size (zAG HZ.out)).trans HZ.out)
 obtain ⟨p,hp⟩:∃ p,p=m % 2:=⟨_,rfl⟩
 have hpm:(m:Int).tmod 2=(p:Int):=by rw [Int.tmod_eq_emod_of_nonneg (by omega),hp];simp
 have HPM:=yh hp
 have hp2:p≤1:=by omega
 clear ho2 hb2 hA0 hp
 by_cases hm2:m<5
 ·have g1:decide ((m:Int)<5)=true:=decide_eq_true (by omega)
  have g2:(m:Int)<5:=by omega
  have HM2:Hid (m<5):=hm2
  clear hm2 hpm
  have r0:=zAA (i:=0) HZ2.out rfl;have r1:=zAA (i:=1) HZ2.out rfl;have r2:=zAA (i:=2) HZ2.out rfl;have r3:=zAA (i:=3) HZ2.out rfl;have r4:=zAA (i:=4) HZ2.out rfl;have r5:=zAA (i:=5) HZ2.out rfl;have r6:=zAA (i:=6) HZ2.out rfl
  have y0:=zAC (i:=0) HZ2.out;have y1:=zAC (i:=1) HZ2.out;have y2:=zAC (i:=2) HZ2.out;have y3:=zAC (i:=3) HZ2.out;have y4:=zAC (i:=4) HZ2.out;have y5:=zAC (i:=5) HZ2.out;have y6:=zAC (i:=6) HZ2.out
  go_wp2
  have hx5:=(zAD (zAD (zAD (zAD (zAD (zAD (zAD HZ2.out 0 (.int .i64 0)) 1 (.string ⟨#[]⟩)) 2 (.int .u64 0)) 3 (.slice none 0 0)) 4 (.int .u64 0)) 5 (.int .u64 0)) 6 (.string ⟨#[]⟩))
  refine bodyPost_ret (zBJ Tryz.results15 _ _ w.heap.size _ _ (0,0) _ rfl hx5 Tryz.underlying37 rfl (by kernel_rfl)) rfl ?_
  exact ⟨.inr ⟨zAa (by cases h:lnO (words line) with | none =>rfl | some p =>have:=zGQ h;rw [← HWS.out,← HML.out] at this;have:=HM2.out;omega),rfl⟩,(((((((HB2.out.setCell (Nat.le_refl _) _).setCell (Nat.le_refl _) _).setCell (Nat.le_refl _) _).setCell (Nat.le_refl _) _).setCell (Nat.le_refl _) _).setCell (Nat.le_refl _) _).setCell (Nat.le_refl _) _)⟩
 ·have g1:decide ((m:Int)<5)=false:=decide_eq_false (by omega)
  have g2:¬ (m:Int)<5:=by omega
  by_cases hp0:p=0
  ·subst hp0
   clear hm2
   have r0:=zAA (i:=0) HZ2.out rfl;have r1:=zAA (i:=1) HZ2.out rfl;have r2:=zAA (i:=2) HZ2.out rfl;have r3:=zAA (i:=3) HZ2.out rfl;have r4:=zAA (i:=4) HZ2.out rfl;have r5:=zAA (i:=5) HZ2.out rfl;have r6:=zAA (i:=6) HZ2.out rfl
   have y0:=zAC (i:=0) HZ2.out;have y1:=zAC (i:=1) HZ2.out;have y2:=zAC (i:=2) HZ2.out;have y3:=zAC (i:=3) HZ2.out;have y4:=zAC (i:=4) HZ2.out;have y5:=zAC (i:=5) HZ2.out;have y6:=zAC (i:=6) HZ2.out
   go_wp2
   have hx5:=(zAD (zAD (zAD (zAD (zAD (zAD (zAD HZ2.out 0 (.int .i64 0)) 1 (.string ⟨#[]⟩)) 2 (.int .u64 0)) 3 (.slice none 0 0)) 4 (.int .u64 0)) 5 (.int .u64 0)) 6 (.string ⟨#[]⟩))
   refine bodyPost_ret (zBJ Tryz.results15 _ _ w.heap.size _ _ (0,0) _ rfl hx5 Tryz.underlying37 rfl (by kernel_rfl)) rfl ?_
   exact ⟨.inr ⟨zAa (by cases h:lnO (words line) with | none =>rfl | some p =>have:=zKo h;rw [← HWS.out,← HML.out] at this;have:=HPM.out;omega),rfl⟩,(((((((HB2.out.setCell (Nat.le_refl _) _).setCell (Nat.le_refl _) _).setCell (Nat.le_refl _) _).setCell (Nat.le_refl _) _).setCell (Nat.le_refl _) _).setCell (Nat.le_refl _) _).setCell (Nat.le_refl _) _)⟩
  ·obtain rfl:p=1:=by omega
   have hm2':5≤m:=by omega
   clear hp0 hp2
   obtain ⟨t,u,o,q,s,rest,hrest⟩:∃ t u o q s rest,ws=t :: u :: o :: q :: s :: rest:=by
    have:=HML.out
    match ws,this with
    | t :: u :: o :: q :: s :: r,_ =>exact ⟨t,u,o,q,s,r,rfl⟩
    | [],h =>simp at h;omega
    | [_],h =>simp at h;omega
    | [_,_],h =>simp at h;omega
    | [_,_,_],h =>simp at h;omega
    | [_,_,_,_],h =>simp at h;omega
   subst hrest
   have HTK:Hid (words line=t :: u :: o :: q :: s :: rest):=yh HWS.out.symm
   have hle:∀ x ∈ (t :: u :: o :: q :: s :: rest),x.length≤5000:=fun x hx =>Nat.le_trans (zGq (by rw [← HWS.out];exact hx)) hl
   have HLE:=yh hle
   have hrd:=zAE.of_own HO2.out
   obtain ⟨gW,rfl⟩:∃ gW,A0=some ⟨gW,0,none⟩:=by
    rcases HO2.out.2 with ⟨h,_⟩ | ⟨g,cap,cur,h,_⟩
    ·injection h with _ h2 _;omega
    ·injection h with h1 _ _;exact ⟨g,h1⟩
   obtain ⟨ad,had,hbl,hcl⟩:=hrd.2 (by omega)
   obtain rfl:=(Option.some.inj had).symm
   have c1:∀ j:Nat,(⟨gW,0,none⟩:Addr).add j=⟨gW,j,none⟩:=fun j =>by simp [Addr.add];exact fun h =>h.symm
   have HCL:Hid (∀ (j:Nat) (x:List UInt8),(t :: u :: o :: q :: s :: rest)[j]? = some x→w2.cell? ⟨gW,j,none⟩=some (.string (tx x))):=fun j x hx =>by
    have h1:=hcl j (tsv x) (by rw [List.getElem?_map,hx];rfl)
    rw [c1] at h1
    exact h1
   have HGW:Hid (gW<w2.heap.size):=hbl
   have i0:(0:Int)<(m:Int):=by omega
   have i1:(1:Int)<(m:Int):=by omega
   have i2:(2:Int)<(m:Int):=by omega
   have i3:(3:Int)<(m:Int):=by omega
   have i4:(4:Int)<(m:Int):=by omega
   have i00:¬ m=0:=by omega
   have HI5:Hid (5≤m):=hm2'
   have ha1:=(Below.refl w2.heap.size w2).alloc (Nat.le_refl _) (.cells #[.int .i64 1,.string ⟨#[]⟩,.int .u64 0,.slice none 0 0,.int .u64 0,.int .u64 0,.string ⟨#[]⟩] 37)
   have ha2:=ha1.alloc ha1.size (.cells #[.bool false,.bool false,.bool false,.bool false,.bool false] 4)
   have hs1:(w2.alloc (.cells #[.int .i64 1,.string ⟨#[]⟩,.int .u64 0,.slice none 0 0,.int .u64 0,.int .u64 0,.string ⟨#[]⟩] 37)).heap.size=w2.heap.size+1:=by simp
   have hk3:=zAI (w2.alloc (.cells #[.int .i64 1,.string ⟨#[]⟩,.int .u64 0,.slice none 0 0,.int .u64 0,.int .u64 0,.string ⟨#[]⟩] 37)) (.cells #[.bool false,.bool false,.bool false,.bool false,.bool false] 4)
   rw [hs1] at hk3
   have hr3:=(Below.heap_alloc (w2.alloc (.cells #[.int .i64 1,.string ⟨#[]⟩,.int .u64 0,.slice none 0 0,.int .u64 0,.int .u64 0,.string ⟨#[]⟩] 37)) (.cells #[.bool false,.bool false,.bool false,.bool false,.bool false] 4) w2.heap.size (by rw [hs1];omega)).trans (zAI w2 (.cells #[.int .i64 1,.string ⟨#[]⟩,.int .u64 0,.slice none 0 0,.int .u64 0,.int .u64 0,.string ⟨#[]⟩] 37))
   obtain ⟨w3,hw3⟩:∃ x,x=(w2.alloc (.cells #[.int .i64 1,.string ⟨#[]⟩,.int .u64 0,.slice none 0 0,.int .u64 0,.int .u64 0,.string ⟨#[]⟩] 37)).alloc (.cells #[.bool false,.bool false,.bool false,.bool false,.bool false] 4):=⟨_,rfl⟩
   have d0:((w2.alloc (.cells #[.int .i64 1,.string ⟨#[]⟩,.int .u64 0,.slice none 0 0,.int .u64 0,.int .u64 0,.string ⟨#[]⟩] 37)).alloc (.cells #[.bool false,.bool false,.bool false,.bool false,.bool false] 4)).cell? ⟨gW,0,none⟩=some (.string (tx t)):=zAp ha2 HGW.out (HCL.out 0 t rfl)
   rw [← hw3] at ha2 hk3 hr3
   have HW3:=yh hw3
   have HD3:=yh ha2
   have HK3:=yh hk3
   have HR3:=yh hr3
   obtain ⟨gr,hgr⟩:∃ gr,gr=w2.heap.size:=⟨_,rfl⟩
   have HGR:=yh hgr
   have hpm2:(m:Int) % 2=1:=by have:=HPM.out;omega
   clear hm2' hle hrd had hbl hcl c1 hs1 ha1 ha2 hk3 hr3 hw3 hgr
   go_wp2_with fail
   rw [← HW3.out,← HGR.out]
   rw [← HGR.out] at HK3 HR3
   clear d0 g1 g2 hpm hpm2
   refine (zCl t (HLE.out t (by simp)) w3).mono ?_
   rintro e y0 ⟨rfl,hb⟩
   have hd:=HD3.out.trans (hb.mono HD3.out.size)
   have hr:=(hb.block gr (zAG HR3.out)).trans HR3.out
   have hk:=(hb.block (gr+1) (zAG HK3.out)).trans HK3.out
   have r0:=zAA (i:=1) hr rfl
   have r1:=zAC (i:=1) hr
   have hk1:(y0.setCell ⟨gr,1,none⟩ (.string (tx (eget t).1))).heap[gr+1]? = some (.cells #[.bool false,.bool false,.bool false,.bool false,.bool false] 4 (0,0)):=(Below.heap_setCell _ _ _ _ (by simp)).trans hk
   have k0:=zAA (i:=0) hk1 rfl
   have k1:=zAC (i:=0) hk1
   have hr2:=zAD hr 1 (.string (tx (eget t).1))
   have hr3:=(Below.heap_setCell (y0.setCell ⟨gr,1,none⟩ (.string (tx (eget t).1))) ⟨gr+1,0,none⟩ (.bool (eget t).2) gr (by simp)).trans hr2
   have hk2:=zAD hk1 0 (.bool (eget t).2)
   have hgr2:w2.heap.size≤gr:=by rw [HGR.out];exact Nat.le_refl _
   have hdn:=(hd.setCell (p:=⟨gr,1,none⟩) hgr2 (.string (tx (eget t).1))).setCell (p:=⟨gr+1,0,none⟩) (Nat.le_succ_of_le hgr2) (.bool (eget t).2)
   obtain ⟨x1,hwn⟩:∃ x,x=((y0.setCell ⟨gr,1,none⟩ (.string (tx (eget t).1))).setCell ⟨gr+1,0,none⟩ (.bool (eget t).2)):=⟨_,rfl⟩
   have d0:((y0.setCell ⟨gr,1,none⟩ (.string (tx (eget t).1))).setCell ⟨gr+1,0,none⟩ (.bool (eget t).2)).cell? ⟨gW,1,none⟩=some (.string (tx u)):=zAp hdn HGW.out (HCL.out 1 u rfl)
   rw [← hwn] at hdn hr3 hk2
   have HWx1:=yh hwn
   have HDx1:=yh hdn
   have HRx1:Hid (x1.heap[gr]? = some (.cells #[.int .i64 1,.string (tx (eget t).1),.int .u64 0,.slice none 0 0,.int .u64 0,.int .u64 0,.string ⟨#[]⟩] 37 (0,0))):=hr3
   have HKx1:Hid (x1.heap[gr+1]? = some (.cells #[.bool (eget t).2,.bool false,.bool false,.bool false,.bool false] 4 (0,0))):=hk2
   clear hd hr hk hk1 hr2 hr3 hk2 hdn hwn hb hgr2
   go_wp2_with fail
   rw [← HWx1.out]
   clear r0 r1 k0 k1 d0
   refine (zBb u (Nat.le_trans (HLE.out u (by simp)) (by omega)) x1).mono ?_
   rintro e y1 ⟨rfl,hw⟩
   have hb:Below x1.heap.size x1 y1:=by rw [← hw];exact Below.refl _ _
   clear hw
   unfold rav
   have hd:=HDx1.out.trans (hb.mono HDx1.out.size)
   have hr:=(hb.block gr (zAG HRx1.out)).trans HRx1.out
   have hk:=(hb.block (gr+1) (zAG HKx1.out)).trans HKx1.out
   have r0:=zAA (i:=2) hr rfl
   have r1:=zAC (i:=2) hr
   have hk1:(y1.setCell ⟨gr,2,none⟩ (.int .u64 ((rans u).1:Int))).heap[gr+1]? = some (.cells #[.bool (eget t).2,.bool false,.bool false,.bool false,.bool false] 4 (0,0)):=(Below.heap_setCell _ _ _ _ (by simp)).trans hk
   have k0:=zAA (i:=1) hk1 rfl
   have k1:=zAC (i:=1) hk1
   have hr2:=zAD hr 2 (.int .u64 ((rans u).1:Int))
   have hr3:=(Below.heap_setCell (y1.setCell ⟨gr,2,none⟩ (.int .u64 ((rans u).1:Int))) ⟨gr+1,1,none⟩ (.bool (rans u).2) gr (by simp)).trans hr2
   have hk2:=zAD hk1 1 (.bool (rans u).2)
   have hgr2:w2.heap.size≤gr:=by rw [HGR.out];exact Nat.le_refl _
   have hdn:=(hd.setCell (p:=⟨gr,2,none⟩) hgr2 (.int .u64 ((rans u).1:Int))).setCell (p:=⟨gr+1,1,none⟩) (Nat.le_succ_of_le hgr2) (.bool (rans u).2)
   obtain ⟨x2,hwn⟩:∃ x,x=((y1.setCell ⟨gr,2,none⟩ (.int .u64 ((rans u).1:Int))).setCell ⟨gr+1,1,none⟩ (.bool (rans u).2)):=⟨_,rfl⟩
   have d0:((y1.setCell ⟨gr,2,none⟩ (.int .u64 ((rans u).1:Int))).setCell ⟨gr+1,1,none⟩ (.bool (rans u).2)).cell? ⟨gW,2,none⟩=some (.string (tx o)):=zAp hdn HGW.out (HCL.out 2 o rfl)
   rw [← hwn] at hdn hr3 hk2
   have HWx2:=yh hwn
   have HDx2:=yh hdn
   have HRx2:Hid (x2.heap[gr]? = some (.cells #[.int .i64 1,.string (tx (eget t).1),.int .u64 ((rans u).1:Int),.slice none 0 0,.int .u64 0,.int .u64 0,.string ⟨#[]⟩] 37 (0,0))):=hr3
   have HKx2:Hid (x2.heap[gr+1]? = some (.cells #[.bool (eget t).2,.bool (rans u).2,.bool false,.bool false,.bool false] 4 (0,0))):=hk2
   clear hd hr hk hk1 hr2 hr3 hk2 hdn hwn hb hgr2
   go_wp2_with fail
   rw [← HWx2.out]
   clear r0 r1 k0 k1 d0
   refine (zBb o (Nat.le_trans (HLE.out o (by simp)) (by omega)) x2).mono ?_
   rintro e y2 ⟨rfl,hw⟩
   have hb:Below x2.heap.size x2 y2:=by rw [← hw];exact Below.refl _ _
   clear hw
   unfold rav
   have hd:=HDx2.out.trans (hb.mono HDx2.out.size)
   have hr:=(hb.block gr (zAG HRx2.out)).trans HRx2.out
   have hk:=(hb.block (gr+1) (zAG HKx2.out)).trans HKx2.out
   have r0:=zAA (i:=4) hr rfl
   have r1:=zAC (i:=4) hr
   have hk1:(y2.setCell ⟨gr,4,none⟩ (.int .u64 ((rans o).1:Int))).heap[gr+1]? = some (.cells #[.bool (eget t).2,.bool (rans u).2,.bool false,.bool false,.bool false] 4 (0,0)):=(Below.heap_setCell _ _ _ _ (by simp)).trans hk
   have k0:=zAA (i:=2) hk1 rfl
   have k1:=zAC (i:=2) hk1
   have hr2:=zAD hr 4 (.int .u64 ((rans o).1:Int))
   have hr3:=(Below.heap_setCell (y2.setCell ⟨gr,4,none⟩ (.int .u64 ((rans o).1:Int))) ⟨gr+1,2,none⟩ (.bool (rans o).2) gr (by simp)).trans hr2
   have hk2:=zAD hk1 2 (.bool (rans o).2)
   have hgr2:w2.heap.size≤gr:=by rw [HGR.out];exact Nat.le_refl _
   have hdn:=(hd.setCell (p:=⟨gr,4,none⟩) hgr2 (.int .u64 ((rans o).1:Int))).setCell (p:=⟨gr+1,2,none⟩) (Nat.le_succ_of_le hgr2) (.bool (rans o).2)
   obtain ⟨x3,hwn⟩:∃ x,x=((y2.setCell ⟨gr,4,none⟩ (.int .u64 ((rans o).1:Int))).setCell ⟨gr+1,2,none⟩ (.bool (rans o).2)):=⟨_,rfl⟩
   have d0:((y2.setCell ⟨gr,4,none⟩ (.int .u64 ((rans o).1:Int))).setCell ⟨gr+1,2,none⟩ (.bool (rans o).2)).cell? ⟨gW,3,none⟩=some (.string (tx q)):=zAp hdn HGW.out (HCL.out 3 q rfl)
   rw [← hwn] at hdn hr3 hk2
   have HWx3:=yh hwn
   have HDx3:=yh hdn
   have HRx3:Hid (x3.heap[gr]? = some (.cells #[.int .i64 1,.string (tx (eget t).1),.int .u64 ((rans u).1:Int),.slice none 0 0,.int .u64 ((rans o).1:Int),.int .u64 0,.string ⟨#[]⟩] 37 (0,0))):=hr3
   have HKx3:Hid (x3.heap[gr+1]? = some (.cells #[.bool (eget t).2,.bool (rans u).2,.bool (rans o).2,.bool false,.bool false] 4 (0,0))):=hk2
   clear hd hr hk hk1 hr2 hr3 hk2 hdn hwn hb hgr2
   go_wp2_with fail
   rw [← HWx3.out]
   clear r0 r1 k0 k1 d0
   refine (zHC q (HLE.out q (by simp)) x3).mono ?_
   rintro e y3 ⟨hw,zq,bq,rfl,hz1,hz2⟩
   have hb:Below x3.heap.size x3 y3:=by rw [hw];exact Below.refl _ _
   clear hw
   have HZQ:Hid (zq<18446744073709551616):=hz1
   have HZ3:=yh hz2
   clear hz1 hz2
   have hd:=HDx3.out.trans (hb.mono HDx3.out.size)
   have hr:=(hb.block gr (zAG HRx3.out)).trans HRx3.out
   have hk:=(hb.block (gr+1) (zAG HKx3.out)).trans HKx3.out
   have r0:=zAA (i:=5) hr rfl
   have r1:=zAC (i:=5) hr
   have hk1:(y3.setCell ⟨gr,5,none⟩ (.int .u64 (zq:Int))).heap[gr+1]? = some (.cells #[.bool (eget t).2,.bool (rans u).2,.bool (rans o).2,.bool false,.bool false] 4 (0,0)):=(Below.heap_setCell _ _ _ _ (by simp)).trans hk
   have k0:=zAA (i:=3) hk1 rfl
   have k1:=zAC (i:=3) hk1
   have hr2:=zAD hr 5 (.int .u64 (zq:Int))
   have hr3:=(Below.heap_setCell (y3.setCell ⟨gr,5,none⟩ (.int .u64 (zq:Int))) ⟨gr+1,3,none⟩ (.bool bq) gr (by simp)).trans hr2
   have hk2:=zAD hk1 3 (.bool bq)
   have hgr2:w2.heap.size≤gr:=by rw [HGR.out];exact Nat.le_refl _
   have hdn:=(hd.setCell (p:=⟨gr,5,none⟩) hgr2 (.int .u64 (zq:Int))).setCell (p:=⟨gr+1,3,none⟩) (Nat.le_succ_of_le hgr2) (.bool bq)
   obtain ⟨x4,hwn⟩:∃ x,x=((y3.setCell ⟨gr,5,none⟩ (.int .u64 (zq:Int))).setCell ⟨gr+1,3,none⟩ (.bool bq)):=⟨_,rfl⟩
   have d0:((y3.setCell ⟨gr,5,none⟩ (.int .u64 (zq:Int))).setCell ⟨gr+1,3,none⟩ (.bool bq)).cell? ⟨gW,4,none⟩=some (.string (tx s)):=zAp hdn HGW.out (HCL.out 4 s rfl)
   rw [← hwn] at hdn hr3 hk2
   have HWx4:=yh hwn
   have HDx4:=yh hdn
   have HRx4:Hid (x4.heap[gr]? = some (.cells #[.int .i64 1,.string (tx (eget t).1),.int .u64 ((rans u).1:Int),.slice none 0 0,.int .u64 ((rans o).1:Int),.int .u64 (zq:Int),.string ⟨#[]⟩] 37 (0,0))):=hr3
   have HKx4:Hid (x4.heap[gr+1]? = some (.cells #[.bool (eget t).2,.bool (rans u).2,.bool (rans o).2,.bool bq,.bool false] 4 (0,0))):=hk2
   clear hd hr hk hk1 hr2 hr3 hk2 hdn hwn hb hgr2
   go_wp2_with fail
   rw [← HWx4.out]
   clear r0 r1 k0 k1 d0
   refine (zCl s (HLE.out s (by simp)) x4).mono ?_
   rintro e y4 ⟨rfl,hb⟩
   have hd:=HDx4.out.trans (hb.mono HDx4.out.size)
   have hr:=(hb.block gr (zAG HRx4.out)).trans HRx4.out
   have hk:=(hb.block (gr+1) (zAG HKx4.out)).trans HKx4.out
   have r0:=zAA (i:=6) hr rfl
   have r1:=zAC (i:=6) hr
   have hk1:(y4.setCell ⟨gr,6,none⟩ (.string (tx (eget s).1))).heap[gr+1]? = some (.cells #[.bool (eget t).2,.bool (rans u).2,.bool (rans o).2,.bool bq,.bool false] 4 (0,0)):=(Below.heap_setCell _ _ _ _ (by simp)).trans hk
   have k0:=zAA (i:=4) hk1 rfl
   have k1:=zAC (i:=4) hk1
   have hr2:=zAD hr 6 (.string (tx (eget s).1))
   have hr3:=(Below.heap_setCell (y4.setCell ⟨gr,6,none⟩ (.string (tx (eget s).1))) ⟨gr+1,4,none⟩ (.bool (eget s).2) gr (by simp)).trans hr2
   have hk2:=zAD hk1 4 (.bool (eget s).2)
   have hgr2:w2.heap.size≤gr:=by rw [HGR.out];exact Nat.le_refl _
   have hdn:=(hd.setCell (p:=⟨gr,6,none⟩) hgr2 (.string (tx (eget s).1))).setCell (p:=⟨gr+1,4,none⟩) (Nat.le_succ_of_le hgr2) (.bool (eget s).2)
   obtain ⟨x5,hwn⟩:∃ x,x=((y4.setCell ⟨gr,6,none⟩ (.string (tx (eget s).1))).setCell ⟨gr+1,4,none⟩ (.bool (eget s).2)):=⟨_,rfl⟩
   rw [← hwn] at hdn hr3 hk2
   have HWx5:=yh hwn
   have HDx5:=yh hdn
   have HRx5:Hid (x5.heap[gr]? = some (.cells #[.int .i64 1,.string (tx (eget t).1),.int .u64 ((rans u).1:Int),.slice none 0 0,.int .u64 ((rans o).1:Int),.int .u64 (zq:Int),.string (tx (eget s).1)] 37 (0,0))):=hr3
   have HKx5:Hid (x5.heap[gr+1]? = some (.cells #[.bool (eget t).2,.bool (rans u).2,.bool (rans o).2,.bool bq,.bool (eget s).2] 4 (0,0))):=hk2
   clear hd hr hk hk1 hr2 hr3 hk2 hdn hwn hb hgr2
   go_upto_region 11 with fail
   rw [← HWx5.out]
   clear r0 r1 k0 k1
   go_cut [7] from 79 to 101 (fun v7 wc =>v7=.bool (((((eget t).2 && (rans u).2) && (rans o).2) && bq) && (eget s).2)∧wc=x5)
   case first =>
    have k0:=zAA (i:=0) HKx5.out rfl;have k1:=zAA (i:=1) HKx5.out rfl;have k2:=zAA (i:=2) HKx5.out rfl;have k3:=zAA (i:=3) HKx5.out rfl;have k4:=zAA (i:=4) HKx5.out rfl
    rcases Bool.eq_false_or_eq_true (eget t).2 with h0 | h0
    ·rw [h0] at k0
     have H0:=yh h0
     clear h0
     rcases Bool.eq_false_or_eq_true (rans u).2 with h1 | h1
     ·rw [h1] at k1
      have H1:=yh h1
      clear h1
      rcases Bool.eq_false_or_eq_true (rans o).2 with h2 | h2
      ·rw [h2] at k2
       have H2:=yh h2
       clear h2
       rcases Bool.eq_false_or_eq_true bq with h3 | h3
       ·rw [h3] at k3
        have H3:=yh h3
        clear h3
        rcases Bool.eq_false_or_eq_true (eget s).2 with h4 | h4
        ·rw [h4] at k4
         have H4:=yh h4
         clear h4
         go_wp2
         go_meet
         exact ⟨by simp [H0.out,H1.out,H2.out,H3.out,H4.out],rfl⟩
        ·rw [h4] at k4
         have H4:=yh h4
         clear h4
         go_wp2
         go_meet
         exact ⟨by simp [H0.out,H1.out,H2.out,H3.out,H4.out],rfl⟩
       ·rw [h3] at k3
        have H3:=yh h3
        clear h3
        go_wp2
        go_meet
        exact ⟨by simp [H0.out,H1.out,H2.out,H3.out],rfl⟩
      ·rw [h2] at k2
       have H2:=yh h2
       clear h2
       go_wp2
       go_meet
       exact ⟨by simp [H0.out,H1.out,H2.out],rfl⟩
     ·rw [h1] at k1
      have H1:=yh h1
      clear h1
      go_wp2
      go_meet
      exact ⟨by simp [H0.out,H1.out],rfl⟩
    ·rw [h0] at k0
     have H0:=yh h0
     clear h0
     go_wp2
     go_meet
     exact ⟨by simp [H0.out],rfl⟩
   case rest =>
    obtain ⟨rfl,hwc⟩:=hcut
    obtain rfl:=hwc.symm
    obtain ⟨ba,hba⟩:∃ ba,ba=(((((eget t).2 && (rans u).2) && (rans o).2) && bq) && (eget s).2):=⟨_,rfl⟩
    rw [← hba]
    have HBA:=yh hba
    have hml:m=rest.length+5:=by rw [HML.out];simp
    have HST:Hid (RtSt w2 gr m zq t u o s (t :: u :: o :: q :: s :: rest) rest ba 5 rest [] ba x5):=by
     refine ⟨rfl,rfl,fun k x hx =>?_,by omega,by have:=HPM.out;omega,by omega,⟨none,0,HRx5.out,World.ownsRow_nil _ _ _ _,zAG HKx5.out⟩,HDx5.out,by simp;omega,fun d hd =>by cases hd⟩
     rw [show 5+k=k+5 by omega]
     exact hx
    have HMR:=yh hml
    clear hba hwc hml i0 i1 i2 i3 i4 i00
    go_wp2
    go_loopw [7,8] (fun v7 v8 wr =>∃ (i:Nat) (tl:List (List UInt8)) (acc:List Dp) (cur:Bool),v7=.bool cur∧v8=.int .i64 (i:Int)∧RtSt w2 gr m zq t u o s (t :: u :: o :: q :: s :: rest) rest ba i tl acc cur wr) (fun _ v8 _ =>m - (intOf v8).toNat)
    case atStart =>exact ⟨5,rest,[],ba,rfl,rfl,HST.out⟩
    case round =>
     obtain ⟨i,tl,acc,cur,rfl,rfl,hst⟩:=hrel
     replace HST:=yh hst
     have hi5:i≤m:=by have:=hst.len;omega
     clear hst
     rcases tl with _ | ⟨a,_ | ⟨b,tl⟩⟩
     ·have hlen:=HST.out.len
      obtain rfl:i=m:=by simpa using hlen
      clear hlen
      obtain ⟨Av,cv,hgx,hox,hgs⟩:=HST.out.box
      have hacc:dqs rest=acc:=by have:=HST.out.at_;rw [this];simp [dqs]
      have hcur:(ba && doks rest)=cur:=by have:=HST.out.ok;rw [this];simp [doks]
      have HU:Hid (∀ r l,zAy line r l→r=⟨1,(eget t).1,((rans u).1:Int),((rans o).1:Int),(zq:Int),(eget s).1⟩∧l=acc∧cur=true):=fun r l h =>by
       obtain ⟨p1,p2,p3,p4,p5,p6,p7,p8,p9,p10⟩:=h.parts HTK.out
       obtain ⟨z1,z2⟩:=HZ3.out r.time.toNat (by omega) p10
       refine ⟨?_,p2.trans hacc,?_⟩
       ·rw [p1,z1,Int.toNat_of_nonneg p8]
       ·rw [← hcur,HBA.out,p3,p4,p5,p6,p7,z2];rfl
      have HNUM:Hid (Nums ⟨1,(eget t).1,((rans u).1:Int),((rans o).1:Int),(zq:Int),(eget s).1⟩ acc):=⟨by have:=zGe u;simp only;omega,by have:=zGe o;simp only;omega,by have:=HZQ.out;simp only;omega,fun d hd =>(HST.out.dp d hd).2⟩
      have HFIT:Hid (Fits ⟨1,(eget t).1,((rans u).1:Int),((rans o).1:Int),(zq:Int),(eget s).1⟩ acc):=⟨Nat.le_trans (zCb t) (Nat.le_trans (HLE.out t (by simp)) (by unfold maxLen;omega)),Nat.le_trans (zCb s) (Nat.le_trans (HLE.out s (by simp)) (by unfold maxLen;omega)),fun d hd =>Nat.le_trans (HST.out.dp d hd).1 (by unfold maxLen;omega)⟩
      have hac:acc.length≤5000:=by have:=HST.out.few;omega
      have HB9:Hid (Below w.heap.size w wr):=HB2.out.trans (HST.out.b.mono HB2.out.size)
      have HZ9:Hid (wr.heap[w.heap.size]? = some (.cells #[.int .i64 0,.string ⟨#[]⟩,.int .u64 0,.slice none 0 0,.int .u64 0,.int .u64 0,.string ⟨#[]⟩] 37)):=(HST.out.b.block w.heap.size (zAG HZ2.out)).trans HZ2.out
      have HGB:=yh hgx
      have HO:=yh hox
      have HGW2:Hid (w.heap.size<gr):=by have:=zAG HZ2.out;have:=HGR.out;exact yh (by omega)
      have HRW:=yh (zAE.of_own hox)
      have k0:=zAA (i:=0) hgx rfl;have k1:=zAA (i:=1) hgx rfl;have k2:=zAA (i:=2) hgx rfl;have k3:=zAA (i:=3) hgx rfl;have k4:=zAA (i:=4) hgx rfl;have k5:=zAA (i:=5) hgx rfl;have k6:=zAA (i:=6) hgx rfl
      clear hgx hox hgs HST hacc hcur
      have HDL:Hid (∃ ec:Int,∃ T:List UInt8,((ec=0∧MayP 3 ⟨1,(eget t).1,((rans u).1:Int),((rans o).1:Int),(zq:Int),(eget s).1⟩ acc∧T=zAU (zAu (eget t).1 (rans u).1 (rans o).1 zq (eget s).1 acc))∨(ec=1∧¬ MayP 3 ⟨1,(eget t).1,((rans u).1:Int),((rans o).1:Int),(zq:Int),(eget s).1⟩ acc∧T=[]))∧Calls Tryz.prog 38 #[.agg #[.int .i64 1,.string (tx (eget t).1),.int .u64 ((rans u).1:Int),.slice Av acc.length cv,.int .u64 ((rans o).1:Int),.int .u64 (zq:Int),.string (tx (eget s).1)]] wr fun e w' =>e=.returned (.tuple #[.string (tx T),.int .i64 ec])∧Below wr.heap.size wr w'):=by
       by_cases hmay:MayP 3 ⟨1,(eget t).1,((rans u).1:Int),((rans o).1:Int),(zq:Int),(eget s).1⟩ acc
       ·obtain ⟨m1,m2,m3,m4⟩:=zCH hmay
        refine ⟨0,_,.inl ⟨rfl,hmay,rfl⟩,?_⟩
        have hq:=zHa ⟨⟨1,(eget t).1,((rans u).1:Int),((rans o).1:Int),(zq:Int),(eget s).1⟩,Av,acc.length,cv,acc⟩ ⟨HFIT.out,HNUM.out,fun d hd =>Nat.le_trans (m4 d hd) (by omega),by show acc.length≤60;omega,by show (eget t).1.length≤300;simp only at m1;omega,by show (eget s).1.length≤300;simp only at m2;omega⟩ wr HRW.out
        refine hq.mono ?_
        rintro e w' ⟨⟨_,rfl⟩ | ⟨hno,_⟩,hb⟩
        ·exact ⟨rfl,hb⟩
        ·exact absurd ⟨rfl,hmay⟩ hno
       ·refine ⟨1,[],.inr ⟨rfl,hmay,rfl⟩,?_⟩
        exact zGh 1 ((rans u).1:Int) ((rans o).1:Int) (zq:Int) (eget t).1 (eget s).1 Av acc.length cv acc hac HFIT.out (fun h =>hmay h.2) wr HRW.out
      obtain ⟨ec,T,hec,hcall⟩:=HDL.out
      have HCALL:=yh hcall
      clear hcall HDL
      go_wp2_with fail
      refine HCALL.out.mono ?_
      rintro e w10 ⟨rfl,hb10⟩
      have HB10:Hid (Below w.heap.size w w10):=HB9.out.trans (hb10.mono HB9.out.size)
      replace HZ9:=yh ((hb10.block w.heap.size (zAG HZ9.out)).trans HZ9.out)
      replace HGB:=yh ((hb10.block gr (zAG HGB.out)).trans HGB.out)
      replace HO:=yh (zAb HO.out hb10)
      clear hb10 k0 k1 k2 k3 k4 k5 k6 HCALL
      have hTB:((tx T).toList == (tx line).toList)=decide (T=line):=by rw [zAg (a:=line)];exact zAo T line
      cases cur with
      | false =>
       have HEC:=yh hec
       clear hec hTB
       have r0:=zAA (i:=0) HZ9.out rfl;have r1:=zAA (i:=1) HZ9.out rfl;have r2:=zAA (i:=2) HZ9.out rfl;have r3:=zAA (i:=3) HZ9.out rfl;have r4:=zAA (i:=4) HZ9.out rfl;have r5:=zAA (i:=5) HZ9.out rfl;have r6:=zAA (i:=6) HZ9.out rfl
       have y0:=zAC (i:=0) HZ9.out;have y1:=zAC (i:=1) HZ9.out;have y2:=zAC (i:=2) HZ9.out;have y3:=zAC (i:=3) HZ9.out;have y4:=zAC (i:=4) HZ9.out;have y5:=zAC (i:=5) HZ9.out;have y6:=zAC (i:=6) HZ9.out
       go_wp2
       have hx5:=(zAD (zAD (zAD (zAD (zAD (zAD (zAD HZ9.out 0 (.int .i64 0)) 1 (.string ⟨#[]⟩)) 2 (.int .u64 0)) 3 (.slice none 0 0)) 4 (.int .u64 0)) 5 (.int .u64 0)) 6 (.string ⟨#[]⟩))
       refine bodyPost_ret (zBJ Tryz.results15 _ _ w.heap.size _ _ (0,0) _ rfl hx5 Tryz.underlying37 rfl (by kernel_rfl)) rfl ?_
       exact ⟨.inr ⟨fun r l h =>absurd (HU.out r l h).2.2 (by decide),rfl⟩,(((((((HB10.out.setCell (Nat.le_refl _) _).setCell (Nat.le_refl _) _).setCell (Nat.le_refl _) _).setCell (Nat.le_refl _) _).setCell (Nat.le_refl _) _).setCell (Nat.le_refl _) _).setCell (Nat.le_refl _) _)⟩
      | true =>
       rcases hec with ⟨rfl,hmay,hT⟩ | ⟨rfl,hmay,hT⟩
       ·have HMAY:=yh hmay
        have HT:=yh hT
        clear hmay hT
        by_cases hTl:T=line
        ·rw [decide_eq_true hTl] at hTB
         have hTB2:((tx T).toList != (tx line).toList)=false:=by rw [bne,hTB];rfl
         have HTL:=yh hTl
         clear hTl
         have k0:=zAA (i:=0) HGB.out rfl;have k1:=zAA (i:=1) HGB.out rfl;have k2:=zAA (i:=2) HGB.out rfl;have k3:=zAA (i:=3) HGB.out rfl;have k4:=zAA (i:=4) HGB.out rfl;have k5:=zAA (i:=5) HGB.out rfl;have k6:=zAA (i:=6) HGB.out rfl
         have r0:=zAA (i:=0) HZ9.out rfl;have r1:=zAA (i:=1) HZ9.out rfl;have r2:=zAA (i:=2) HZ9.out rfl;have r3:=zAA (i:=3) HZ9.out rfl;have r4:=zAA (i:=4) HZ9.out rfl;have r5:=zAA (i:=5) HZ9.out rfl;have r6:=zAA (i:=6) HZ9.out rfl
         have y0:=zAC (i:=0) HZ9.out;have y1:=zAC (i:=1) HZ9.out;have y2:=zAC (i:=2) HZ9.out;have y3:=zAC (i:=3) HZ9.out;have y4:=zAC (i:=4) HZ9.out;have y5:=zAC (i:=5) HZ9.out;have y6:=zAC (i:=6) HZ9.out
         go_wp2
         have hx5:=(zAD (zAD (zAD (zAD (zAD (zAD (zAD HZ9.out 0 (.int .i64 1)) 1 (.string (tx (eget t).1))) 2 (.int .u64 ((rans u).1:Int))) 3 (.slice Av acc.length cv)) 4 (.int .u64 ((rans o).1:Int))) 5 (.int .u64 (zq:Int))) 6 (.string (tx (eget s).1)))
         refine bodyPost_ret (zBJ Tryz.results15 _ _ w.heap.size _ _ (0,0) _ rfl hx5 Tryz.underlying37 rfl (by kernel_rfl)) rfl ?_
         refine ⟨.inl ⟨⟨1,(eget t).1,((rans u).1:Int),((rans o).1:Int),(zq:Int),(eget s).1⟩,acc,Av,acc.length,cv,⟨HFIT.out,HNUM.out,rfl,HMAY.out,?_⟩,rfl,?_⟩,(((((((HB10.out.setCell (Nat.le_refl _) _).setCell (Nat.le_refl _) _).setCell (Nat.le_refl _) _).setCell (Nat.le_refl _) _).setCell (Nat.le_refl _) _).setCell (Nat.le_refl _) _).setCell (Nat.le_refl _) _)⟩
         ·rw [← HTL.out,HT.out];rfl
         ·refine zCA (zAs HO.out (fun k hk =>?_)) (by have:=HGW2.out;omega)
          have hne:w.heap.size≠k:=by have:=zAS HO.out k hk;have:=HGW2.out;omega
          simp [World.setCell,Array.getElem?_modify,hne]
        ·rw [decide_eq_false hTl] at hTB
         have hTB2:((tx T).toList != (tx line).toList)=true:=by rw [bne,hTB];rfl
         have HTL:Hid (¬ T=line):=hTl
         clear hTl
         have r0:=zAA (i:=0) HZ9.out rfl;have r1:=zAA (i:=1) HZ9.out rfl;have r2:=zAA (i:=2) HZ9.out rfl;have r3:=zAA (i:=3) HZ9.out rfl;have r4:=zAA (i:=4) HZ9.out rfl;have r5:=zAA (i:=5) HZ9.out rfl;have r6:=zAA (i:=6) HZ9.out rfl
         have y0:=zAC (i:=0) HZ9.out;have y1:=zAC (i:=1) HZ9.out;have y2:=zAC (i:=2) HZ9.out;have y3:=zAC (i:=3) HZ9.out;have y4:=zAC (i:=4) HZ9.out;have y5:=zAC (i:=5) HZ9.out;have y6:=zAC (i:=6) HZ9.out
         go_wp2
         have hx5:=(zAD (zAD (zAD (zAD (zAD (zAD (zAD HZ9.out 0 (.int .i64 0)) 1 (.string ⟨#[]⟩)) 2 (.int .u64 0)) 3 (.slice none 0 0)) 4 (.int .u64 0)) 5 (.int .u64 0)) 6 (.string ⟨#[]⟩))
         refine bodyPost_ret (zBJ Tryz.results15 _ _ w.heap.size _ _ (0,0) _ rfl hx5 Tryz.underlying37 rfl (by kernel_rfl)) rfl ?_
         exact ⟨.inr ⟨fun r l h =>HTL.out (HT.out.trans (by obtain ⟨e1,e2,_⟩:=HU.out r l h;have h5:=h.2.2.2.2;rw [e1,e2] at h5;exact h5)),rfl⟩,(((((((HB10.out.setCell (Nat.le_refl _) _).setCell (Nat.le_refl _) _).setCell (Nat.le_refl _) _).setCell (Nat.le_refl _) _).setCell (Nat.le_refl _) _).setCell (Nat.le_refl _) _).setCell (Nat.le_refl _) _)⟩
       ·have HMAY:Hid (¬ MayP 3 ⟨1,(eget t).1,((rans u).1:Int),((rans o).1:Int),(zq:Int),(eget s).1⟩ acc):=hmay
        clear hmay hT hTB
        have r0:=zAA (i:=0) HZ9.out rfl;have r1:=zAA (i:=1) HZ9.out rfl;have r2:=zAA (i:=2) HZ9.out rfl;have r3:=zAA (i:=3) HZ9.out rfl;have r4:=zAA (i:=4) HZ9.out rfl;have r5:=zAA (i:=5) HZ9.out rfl;have r6:=zAA (i:=6) HZ9.out rfl
        have y0:=zAC (i:=0) HZ9.out;have y1:=zAC (i:=1) HZ9.out;have y2:=zAC (i:=2) HZ9.out;have y3:=zAC (i:=3) HZ9.out;have y4:=zAC (i:=4) HZ9.out;have y5:=zAC (i:=5) HZ9.out;have y6:=zAC (i:=6) HZ9.out
        go_wp2
        have hx5:=(zAD (zAD (zAD (zAD (zAD (zAD (zAD HZ9.out 0 (.int .i64 0)) 1 (.string ⟨#[]⟩)) 2 (.int .u64 0)) 3 (.slice none 0 0)) 4 (.int .u64 0)) 5 (.int .u64 0)) 6 (.string ⟨#[]⟩))
        refine bodyPost_ret (zBJ Tryz.results15 _ _ w.heap.size _ _ (0,0) _ rfl hx5 Tryz.underlying37 rfl (by kernel_rfl)) rfl ?_
        exact ⟨.inr ⟨fun r l h =>HMAY.out (by obtain ⟨e1,e2,_⟩:=HU.out r l h;have h5:=h.2.2.2.1;rw [e1,e2] at h5;exact h5),rfl⟩,(((((((HB10.out.setCell (Nat.le_refl _) _).setCell (Nat.le_refl _) _).setCell (Nat.le_refl _) _).setCell (Nat.le_refl _) _).setCell (Nat.le_refl _) _).setCell (Nat.le_refl _) _).setCell (Nat.le_refl _) _)⟩
     ·exact absurd HST.out.even (by simp)
     ·obtain ⟨Av,cv,hgx,hox,hgs⟩:=HST.out.box
      have hln:=HST.out.len
      have hln2:tl.length+2+i=m:=by simpa using hln
      have ea:w2.cell? ⟨gW,i,none⟩=some (.string (tx a)):=HCL.out i a (HST.out.here 0 a rfl)
      obtain ⟨i2,hi2⟩:∃ i2,i2=i+1:=⟨_,rfl⟩
      have eb:w2.cell? ⟨gW,i2,none⟩=some (.string (tx b)):=by rw [hi2];exact HCL.out (i+1) b (HST.out.here 1 b rfl)
      have HEA:=yh ea
      have HEB:=yh eb
      have HI2:=yh hi2
      have HLN2:=yh hln2
      have HGB:=yh hgx
      have HO:=yh hox
      have HGS2:=yh hgs
      have HBW:=yh HST.out.b
      have HIM:Hid (i<m):=(by omega:i<m)
      have j0:(i:Int)<(m:Int):=by omega
      have j1:(i2:Int)<(m:Int):=by omega
      have j2:(0:Int)≤(i:Int):=by omega
      have j3:(0:Int)≤(i2:Int):=by omega
      have j4:wrap64 ((i:Int)+1)=(i2:Int):=by simp [wrap64];omega
      have HAL:Hid (a.length≤5000):=HLE.out a (List.mem_of_getElem? (HST.out.here 0 a rfl))
      have HBL:Hid (b.length≤5000):=HLE.out b (List.mem_of_getElem? (HST.out.here 1 b rfl))
      have hal:=(Below.refl wr.heap.size wr).alloc (Nat.le_refl _) (.cells #[.string ⟨#[]⟩,.int .u64 0,.bool false] 73)
      have hd0:=zAI wr (.cells #[.string ⟨#[]⟩,.int .u64 0,.bool false] 73)
      have HWD0:=yh (HBW.out.trans (hal.mono HBW.out.size))
      have HAL0:=yh hal
      have HD0:=yh hd0
      obtain ⟨S,hS⟩:∃ S,S=tx b:=⟨_,rfl⟩
      have hsz:S.size=b.length:=by rw [hS,zAK]
      have hs5:S.size≤5000:=by have:=HBL.out;omega
      have HS:=yh hS
      have f1:(wr.alloc (.cells #[.string ⟨#[]⟩,.int .u64 0,.bool false] 73)).cell? ⟨gW,i2,none⟩=some (.string S):=by rw [hS];exact zAp HWD0.out HGW.out HEB.out
      have f2:(wr.alloc (.cells #[.string ⟨#[]⟩,.int .u64 0,.bool false] 73)).cell? ⟨gW,i+1,none⟩=some (.string S):=by rw [← HI2.out];exact f1
      have j5:(i:Int)+1<(m:Int):=by omega
      have hac:acc.length≤5000:=by have:=HST.out.few;omega
      clear hln hln2 ea eb hi2 hgx hox hgs hal hd0 hi5
      cases hsuf:Lib.hasSuffix b [33] with
      | true =>
       obtain ⟨b0,hb0⟩:∃ b0,b=b0++[33]:=by
        obtain ⟨p,hp⟩:=List.isSuffixOf_iff_suffix.1 hsuf
        exact ⟨p,hp.symm⟩
       have hco:cutO b=(b0,true):=by
        unfold cutO Lib.trimSuffix
        rw [hsuf,hb0]
        simp
       have hbl:S.size=b0.length+1:=by rw [hsz,hb0];simp
       obtain ⟨kz,hkz⟩:∃ kz,kz=b0.length:=⟨_,rfl⟩
       have l1:wrap64 ((S.size:Int) - 1)=(kz:Int):=by simp [wrap64];omega
       have l2:kz<S.size:=by omega
       obtain ⟨y,hy,hy2⟩:=zEx hS kz l2
       have l3:S[kz].toNat=33:=by
        rw [← hy]
        have h3:b[kz]? = some 33:=by rw [hb0,hkz];simp
        rw [h3] at hy2
        rw [← Option.some.inj hy2];rfl
       have l9:∀ (h:S.size - 1<S.size),(S[S.size - 1]'h).toNat=33:=fun h =>by
        have e:S.size - 1=kz:=by omega
        simp only [e];exact l3
       have l10:S.size - 1<S.size:=by omega
       have l11:=l9 l10
       have l4:(kz:Int)<(S.size:Int):=by omega
       have l5:(0:Int)≤(kz:Int):=by omega
       have l6:(S.toList == ([]:List UInt8))=false:=by rw [hS,zAo,decide_eq_false (by rw [hb0];simp)]
       have l8:S.extract 0 (S.size - 1)=tx b0:=by rw [hbl];rw [hS,zAv,hb0];simp
       have l7:S.extract 0 kz=tx b0:=by rw [hS,zAv,hb0,hkz];simp
       have q2:=zAA (i:=2) HD0.out rfl;have q3:=zAC (i:=2) HD0.out
       clear hsuf hb0 hbl hkz hy hy2 hsz hS
       have hgd:=zAI wr (.cells #[.string ⟨#[]⟩,.int .u64 0,.bool true] 73)
       have hbel:=(Below.refl wr.heap.size wr).alloc (Nat.le_refl _) (.cells #[.string ⟨#[]⟩,.int .u64 0,.bool true] 73)
       have e0:(wr.alloc (.cells #[.string ⟨#[]⟩,.int .u64 0,.bool true] 73)).cell? ⟨gW,i,none⟩=some (.string (tx a)):=zAp (HBW.out.trans (hbel.mono HBW.out.size)) HGW.out HEA.out
       obtain ⟨W5,hW5⟩:∃ x,x=(wr.alloc (.cells #[.string ⟨#[]⟩,.int .u64 0,.bool true] 73)):=⟨_,rfl⟩
       have HCO:Hid (cutO b=(b0,true)):=hco
       rw [← hW5] at hgd hbel
       have HW5:=yh hW5
       have HGD:=yh hgd
       have HBE:=yh hbel
       have HHL:Hid (b0.length≤5000):=by
        have h1:=HBL.out
        have h2:(cutO b).1.length≤b.length:=by
         unfold cutO Lib.trimSuffix
         simp only
         split
         ·rw [List.length_take];omega
         ·exact Nat.le_refl _
        rw [HCO.out] at h2
        exact yh (Nat.le_trans h2 h1)
       clear hgd hbel hW5 hco
       go_wp2_with fail
       rw [← HW5.out]
       refine (zCl a HAL.out W5).mono ?_
       rintro e y1 ⟨rfl,hy⟩
       have hg1:=(hy.block wr.heap.size (zAG HGD.out)).trans HGD.out
       have r0:=zAA (i:=0) hg1 rfl;have r1:=zAC (i:=0) hg1
       have hg2:=zAD hg1 0 (.string (tx (eget a).1))
       have hb2:=(HBE.out.trans (hy.mono HBE.out.size)).setCell (p:=⟨wr.heap.size,0,none⟩) (Nat.le_refl _) (.string (tx (eget a).1))
       obtain ⟨x6,hx6⟩:∃ x,x=y1.setCell ⟨wr.heap.size,0,none⟩ (.string (tx (eget a).1)):=⟨_,rfl⟩
       rw [← hx6] at hb2
       have hg2':x6.heap[wr.heap.size]? = some (.cells #[.string (tx (eget a).1),.int .u64 0,.bool true] 73 (0,0)):=by rw [hx6];exact hg2
       have HX6:=yh hx6
       have HB6:=yh hb2
       have HG6:=yh hg2'
       clear hy hg1 hg2 hg2' hb2 hx6 e0
       go_wp2_with fail
       rw [← HX6.out]
      
       refine (zBb b0 (Nat.le_trans HHL.out (by omega)) x6).mono ?_
       rintro e y2 ⟨rfl,hw⟩
       obtain rfl:=hw
       unfold rav
       have r2:=zAA (i:=1) HG6.out rfl;have r3:=zAC (i:=1) HG6.out
       have hg3:=zAD HG6.out 1 (.int .u64 ((rans b0).1:Int))
       have hb3:=HB6.out.setCell (p:=⟨wr.heap.size,1,none⟩) (Nat.le_refl _) (.int .u64 ((rans b0).1:Int))
       obtain ⟨x7,hx7⟩:∃ x,x=x6.setCell ⟨wr.heap.size,1,none⟩ (.int .u64 ((rans b0).1:Int)):=⟨_,rfl⟩
       rw [← hx7] at hb3
       have hg3':x7.heap[wr.heap.size]? = some (.cells #[.string (tx (eget a).1),.int .u64 ((rans b0).1:Int),.bool true] 73 (0,0)):=by rw [hx7];exact hg3
       have HX7:=yh hx7
       have HB7:=yh hb3
       have HG7:=yh hg3'
       clear r0 r1 hg3 hg3' hb3 hx7
       go_upto_region 23 with fail
       rw [← HX7.out]
       clear r2 r3
       go_cut [7,10,11] from 102 to 157 (fun v7 _ _ wc =>v7=.bool ((cur && (eget a).2) && (rans b0).2)∧wc=x7)
       case first =>
        cases h0:(eget a).2 <;> cases h1:(rans b0).2 <;> cases cur
        all_goals (have H0:=yh h0;have H1:=yh h1;clear h0 h1;go_wp2;go_meet;exact ⟨by simp [H0.out,H1.out],rfl⟩)
       case rest =>
        obtain ⟨hv7,hwc⟩:=hcut
        obtain rfl:=hwc.symm
        obtain ⟨cur2,hc2⟩:∃ c:Bool,c=((cur && (eget a).2) && (rans b0).2):=⟨_,rfl⟩
        rw [← hc2] at hv7
        subst hv7
        have HC2:=yh hc2
        obtain ⟨d,hdd⟩:∃ d:Dp,d=⟨(eget a).1,((rans b0).1:Int),true⟩:=⟨_,rfl⟩
        have hdq:dq a b=d:=by unfold dq;rw [HCO.out,hdd]
        have HDQ:=yh hdq
        have hgrl:gr<wr.heap.size:=by have:=HGS2.out;omega
        have hgb7:=(HB7.out.block gr hgrl).trans HGB.out
        have ho7:=zAb HO.out HB7.out
        have hal:=(Below.refl x7.heap.size x7).alloc (Nat.le_refl _) (.cells #[.string (tx (eget a).1),.int .u64 ((rans b0).1:Int),.bool true] 73)
        have hsz1:(x7.alloc (.cells #[.string (tx (eget a).1),.int .u64 ((rans b0).1:Int),.bool true] 73)).heap.size=x7.heap.size+1:=by simp
        have hgl7:gr+2≤x7.heap.size:=Nat.le_trans HGS2.out HB7.out.size
        have HGL7:=yh hgl7
        have HNW:Hid (zAE (x7.alloc (.cells #[.string (tx (eget a).1),.int .u64 ((rans b0).1:Int),.bool true] 73)) (x7.heap.size+1) 3 (some ⟨x7.heap.size,0,none⟩) 1 (dps [d])):=by
         have:=zCE x7 d
         rw [hdd] at this ⊢
         exact yh this
        have HOA:=yh (zAb ho7 hal)
        have HGA:=yh ((hal.block gr (by omega)).trans hgb7)
        have HDA:Hid (Below w2.heap.size w2 (x7.alloc (.cells #[.string (tx (eget a).1),.int .u64 ((rans b0).1:Int),.bool true] 73))):=(HBW.out.trans (HB7.out.mono HBW.out.size)).trans (hal.mono (HBW.out.trans (HB7.out.mono HBW.out.size)).size)
        have k3:=zAA (i:=3) hgb7 rfl
        have m0:=zAA (i:=0) HG7.out rfl;have m1:=zAA (i:=1) HG7.out rfl;have m2:=zAA (i:=2) HG7.out rfl
        have HSZ1:=yh hsz1
        clear hc2 hdq hdd hgrl hgb7 ho7 hal hsz1 hgl7
        go_wp2_with (first | (at_builtin;refine zAQ _ rfl (.tmp 153) (.tmp 155) 35 rfl (gr+2) 73 id0 _ 3 32 Tryz.underlying35 hid0 hd0 hd1 hd2 rfl (by decide) (.slice Av acc.length cv) acc.length (dps acc) rfl HOA.out (some ⟨x7.heap.size,0,none⟩) 1 1 (x7.heap.size+1) (dps [d]) rfl (by intro h;cases h) HNW.out (zCa _) (by unfold maxLen;omega) (by omega) (by have:=HSZ1.out;have:=HGL7.out;omega) ?_;intro v9 w9 ho9 hg9;obtain ⟨A9,c9,rfl,_⟩:=zAL ho9;rw [← zCZ] at ho9;have HGB9:=yh ((hg9.block gr (by have:=HSZ1.out;have:=HGL7.out;omega) (fun e =>by have:=zAS HOA.out gr e.symm;omega)).trans HGA.out);have HD9:Hid (Below w2.heap.size w2 w9):=HDA.out.grown hg9 HDA.out.size (fun j hj =>by have:=zAS HOA.out j hj;have:=HGR.out;omega);have HO9:=yh ho9;have HL9:Hid (gr+2≤w9.heap.size):=Nat.le_trans (by have:=HSZ1.out;have:=HGL7.out;omega) hg9.size;clear ho9 hg9) | (refine zBr rfl (.tmp 157) (.tmp 156) rfl gr _ _ _ _ _ _ _ A9 (acc.length+1) c9 rfl rfl HGB9.out ?_;intro w10 hh10 hg10;have HH10:=yh hh10;have HG10:=yh hg10;clear hh10 hg10))
        have HST2:Hid (RtSt w2 gr m zq t u o s (t :: u :: o :: q :: s :: rest) rest ba (i+2) tl (acc++[d]) cur2 w10):=by
         refine ⟨?_,?_,fun k x hx =>?_,by have:=HLN2.out;omega,by have:=HST.out.even;simp at this;omega,by have:=HST.out.five;omega,⟨A9,c9,?_,?_,Nat.le_trans HL9.out HG10.out.size⟩,HD9.out.grown HG10.out HD9.out.size (fun j hj =>by have:=Option.some.inj hj;have:=HGR.out;omega),?_,fun e he =>?_⟩
         ·rw [HST.out.at_,dqs,HDQ.out];simp
         ·rw [HST.out.ok,doks,dok,HCO.out,HC2.out];simp [Bool.and_assoc]
         ·have:=HST.out.here (k+2) x (by simpa using hx)
          rw [show i+2+k=i+(k+2) by omega]
          exact this
         ·rw [List.length_append];exact HH10.out
         ·rw [List.length_append]
          exact zAs HO9.out (fun k hk =>HG10.out.block k (zBu HO9.out k hk) (fun e =>by have:=zAS HO9.out k hk;have:=Option.some.inj e;omega))
         ·rw [List.length_append,List.length_singleton];have:=HST.out.few;simp at this;omega
         ·rcases List.mem_append.1 he with he | he
          ·exact HST.out.dp e he
          ·obtain rfl:=List.mem_singleton.1 he
           rw [← HDQ.out]
           exact zDo HAL.out
        exact ⟨⟨i+2,tl,acc++[d],cur2,rfl,by go_num,HST2.out⟩,by have:=HIM.out;simp [intOf];omega⟩
      | false =>
       by_cases hbe:b=[]
       ·have hco:cutO b=(b,false):=by unfold cutO Lib.trimSuffix;rw [hsuf];rfl
        have l6:(S.toList == ([]:List UInt8))=true:=by rw [hS,zAo,hbe];rfl
        clear hsuf hbe hsz hS
        have hgd:=HD0.out
        have hbel:=HAL0.out
        have e0:(wr.alloc (.cells #[.string ⟨#[]⟩,.int .u64 0,.bool false] 73)).cell? ⟨gW,i,none⟩=some (.string (tx a)):=zAp (HBW.out.trans (hbel.mono HBW.out.size)) HGW.out HEA.out
        obtain ⟨W5,hW5⟩:∃ x,x=(wr.alloc (.cells #[.string ⟨#[]⟩,.int .u64 0,.bool false] 73)):=⟨_,rfl⟩
        have HCO:Hid (cutO b=(b,false)):=hco
        rw [← hW5] at hgd hbel
        have HW5:=yh hW5
        have HGD:=yh hgd
        have HBE:=yh hbel
        have HHL:Hid (b.length≤5000):=by
         have h1:=HBL.out
         have h2:(cutO b).1.length≤b.length:=by
          unfold cutO Lib.trimSuffix
          simp only
          split
          ·rw [List.length_take];omega
          ·exact Nat.le_refl _
         rw [HCO.out] at h2
         exact yh (Nat.le_trans h2 h1)
        clear hgd hbel hW5 hco
        go_wp2_with fail
        rw [← HW5.out]
        refine (zCl a HAL.out W5).mono ?_
        rintro e y1 ⟨rfl,hy⟩
        have hg1:=(hy.block wr.heap.size (zAG HGD.out)).trans HGD.out
        have r0:=zAA (i:=0) hg1 rfl;have r1:=zAC (i:=0) hg1
        have hg2:=zAD hg1 0 (.string (tx (eget a).1))
        have hb2:=(HBE.out.trans (hy.mono HBE.out.size)).setCell (p:=⟨wr.heap.size,0,none⟩) (Nat.le_refl _) (.string (tx (eget a).1))
        obtain ⟨x6,hx6⟩:∃ x,x=y1.setCell ⟨wr.heap.size,0,none⟩ (.string (tx (eget a).1)):=⟨_,rfl⟩
        rw [← hx6] at hb2
        have hg2':x6.heap[wr.heap.size]? = some (.cells #[.string (tx (eget a).1),.int .u64 0,.bool false] 73 (0,0)):=by rw [hx6];exact hg2
        have HX6:=yh hx6
        have HB6:=yh hb2
        have HG6:=yh hg2'
        clear hy hg1 hg2 hg2' hb2 hx6 e0
        go_wp2_with fail
        rw [← HX6.out]
      
        refine (show Calls Tryz.prog 23 #[.string S] x6 (fun e w' =>e=.returned (rav (rans b).1 (rans b).2)∧x6=w') from by rw [HS.out];exact zBb b (Nat.le_trans HHL.out (by omega)) x6).mono ?_
        rintro e y2 ⟨rfl,hw⟩
        obtain rfl:=hw
        unfold rav
        have r2:=zAA (i:=1) HG6.out rfl;have r3:=zAC (i:=1) HG6.out
        have hg3:=zAD HG6.out 1 (.int .u64 ((rans b).1:Int))
        have hb3:=HB6.out.setCell (p:=⟨wr.heap.size,1,none⟩) (Nat.le_refl _) (.int .u64 ((rans b).1:Int))
        obtain ⟨x7,hx7⟩:∃ x,x=x6.setCell ⟨wr.heap.size,1,none⟩ (.int .u64 ((rans b).1:Int)):=⟨_,rfl⟩
        rw [← hx7] at hb3
        have hg3':x7.heap[wr.heap.size]? = some (.cells #[.string (tx (eget a).1),.int .u64 ((rans b).1:Int),.bool false] 73 (0,0)):=by rw [hx7];exact hg3
        have HX7:=yh hx7
        have HB7:=yh hb3
        have HG7:=yh hg3'
        clear r0 r1 hg3 hg3' hb3 hx7
        go_upto_region 23 with fail
        rw [← HX7.out]
        clear r2 r3
        go_cut [7,10,11] from 102 to 157 (fun v7 _ _ wc =>v7=.bool ((cur && (eget a).2) && (rans b).2)∧wc=x7)
        case first =>
         cases h0:(eget a).2 <;> cases h1:(rans b).2 <;> cases cur
         all_goals (have H0:=yh h0;have H1:=yh h1;clear h0 h1;go_wp2;go_meet;exact ⟨by simp [H0.out,H1.out],rfl⟩)
        case rest =>
         obtain ⟨hv7,hwc⟩:=hcut
         obtain rfl:=hwc.symm
         obtain ⟨cur2,hc2⟩:∃ c:Bool,c=((cur && (eget a).2) && (rans b).2):=⟨_,rfl⟩
         rw [← hc2] at hv7
         subst hv7
         have HC2:=yh hc2
         obtain ⟨d,hdd⟩:∃ d:Dp,d=⟨(eget a).1,((rans b).1:Int),false⟩:=⟨_,rfl⟩
         have hdq:dq a b=d:=by unfold dq;rw [HCO.out,hdd]
         have HDQ:=yh hdq
         have hgrl:gr<wr.heap.size:=by have:=HGS2.out;omega
         have hgb7:=(HB7.out.block gr hgrl).trans HGB.out
         have ho7:=zAb HO.out HB7.out
         have hal:=(Below.refl x7.heap.size x7).alloc (Nat.le_refl _) (.cells #[.string (tx (eget a).1),.int .u64 ((rans b).1:Int),.bool false] 73)
         have hsz1:(x7.alloc (.cells #[.string (tx (eget a).1),.int .u64 ((rans b).1:Int),.bool false] 73)).heap.size=x7.heap.size+1:=by simp
         have hgl7:gr+2≤x7.heap.size:=Nat.le_trans HGS2.out HB7.out.size
         have HGL7:=yh hgl7
         have HNW:Hid (zAE (x7.alloc (.cells #[.string (tx (eget a).1),.int .u64 ((rans b).1:Int),.bool false] 73)) (x7.heap.size+1) 3 (some ⟨x7.heap.size,0,none⟩) 1 (dps [d])):=by
          have:=zCE x7 d
          rw [hdd] at this ⊢
          exact yh this
         have HOA:=yh (zAb ho7 hal)
         have HGA:=yh ((hal.block gr (by omega)).trans hgb7)
         have HDA:Hid (Below w2.heap.size w2 (x7.alloc (.cells #[.string (tx (eget a).1),.int .u64 ((rans b).1:Int),.bool false] 73))):=(HBW.out.trans (HB7.out.mono HBW.out.size)).trans (hal.mono (HBW.out.trans (HB7.out.mono HBW.out.size)).size)
         have k3:=zAA (i:=3) hgb7 rfl
         have m0:=zAA (i:=0) HG7.out rfl;have m1:=zAA (i:=1) HG7.out rfl;have m2:=zAA (i:=2) HG7.out rfl
         have HSZ1:=yh hsz1
         clear hc2 hdq hdd hgrl hgb7 ho7 hal hsz1 hgl7
         go_wp2_with (first | (at_builtin;refine zAQ _ rfl (.tmp 153) (.tmp 155) 35 rfl (gr+2) 73 id0 _ 3 32 Tryz.underlying35 hid0 hd0 hd1 hd2 rfl (by decide) (.slice Av acc.length cv) acc.length (dps acc) rfl HOA.out (some ⟨x7.heap.size,0,none⟩) 1 1 (x7.heap.size+1) (dps [d]) rfl (by intro h;cases h) HNW.out (zCa _) (by unfold maxLen;omega) (by omega) (by have:=HSZ1.out;have:=HGL7.out;omega) ?_;intro v9 w9 ho9 hg9;obtain ⟨A9,c9,rfl,_⟩:=zAL ho9;rw [← zCZ] at ho9;have HGB9:=yh ((hg9.block gr (by have:=HSZ1.out;have:=HGL7.out;omega) (fun e =>by have:=zAS HOA.out gr e.symm;omega)).trans HGA.out);have HD9:Hid (Below w2.heap.size w2 w9):=HDA.out.grown hg9 HDA.out.size (fun j hj =>by have:=zAS HOA.out j hj;have:=HGR.out;omega);have HO9:=yh ho9;have HL9:Hid (gr+2≤w9.heap.size):=Nat.le_trans (by have:=HSZ1.out;have:=HGL7.out;omega) hg9.size;clear ho9 hg9) | (refine zBr rfl (.tmp 157) (.tmp 156) rfl gr _ _ _ _ _ _ _ A9 (acc.length+1) c9 rfl rfl HGB9.out ?_;intro w10 hh10 hg10;have HH10:=yh hh10;have HG10:=yh hg10;clear hh10 hg10))
         have HST2:Hid (RtSt w2 gr m zq t u o s (t :: u :: o :: q :: s :: rest) rest ba (i+2) tl (acc++[d]) cur2 w10):=by
          refine ⟨?_,?_,fun k x hx =>?_,by have:=HLN2.out;omega,by have:=HST.out.even;simp at this;omega,by have:=HST.out.five;omega,⟨A9,c9,?_,?_,Nat.le_trans HL9.out HG10.out.size⟩,HD9.out.grown HG10.out HD9.out.size (fun j hj =>by have:=Option.some.inj hj;have:=HGR.out;omega),?_,fun e he =>?_⟩
          ·rw [HST.out.at_,dqs,HDQ.out];simp
          ·rw [HST.out.ok,doks,dok,HCO.out,HC2.out];simp [Bool.and_assoc]
          ·have:=HST.out.here (k+2) x (by simpa using hx)
           rw [show i+2+k=i+(k+2) by omega]
           exact this
          ·rw [List.length_append];exact HH10.out
          ·rw [List.length_append]
           exact zAs HO9.out (fun k hk =>HG10.out.block k (zBu HO9.out k hk) (fun e =>by have:=zAS HO9.out k hk;have:=Option.some.inj e;omega))
          ·rw [List.length_append,List.length_singleton];have:=HST.out.few;simp at this;omega
          ·rcases List.mem_append.1 he with he | he
           ·exact HST.out.dp e he
           ·obtain rfl:=List.mem_singleton.1 he
            rw [← HDQ.out]
            exact zDo HAL.out
         exact ⟨⟨i+2,tl,acc++[d],cur2,rfl,by go_num,HST2.out⟩,by have:=HIM.out;simp [intOf];omega⟩
       ·have hco:cutO b=(b,false):=by unfold cutO Lib.trimSuffix;rw [hsuf];rfl
        have l6:(S.toList == ([]:List UInt8))=false:=by rw [hS,zAo,decide_eq_false hbe]
        have hpos:0<b.length:=by cases b with | nil =>exact absurd rfl hbe | cons _ _ =>simp
        have l10:S.size - 1<S.size:=by omega
        obtain ⟨y,hy,hy2⟩:=zEx hS (S.size - 1) l10
        have l9:¬ (S[S.size - 1]'l10).toNat=33:=fun h =>by
         rw [← hy] at h
         have e1:y=33:=UInt8.toNat_inj.1 h
         rw [hsz,e1] at hy2
         have h2:Lib.hasSuffix b [33]=true:=by
          refine List.isSuffixOf_iff_suffix.2 ⟨b.take (b.length - 1),?_⟩
          have h3:=List.take_append_drop (b.length - 1) b
          have h4:b.drop (b.length - 1)=[33]:=by
           rw [List.drop_eq_getElem_cons (by omega)]
           have h5:b[b.length - 1]'(by omega)=33:=by
            have:=List.getElem?_eq_some_iff.1 hy2
            exact this.2
           rw [h5,List.drop_of_length_le (by omega)]
          rw [h4] at h3
          exact h3
         rw [hsuf] at h2;cases h2
        have l12:(((S[S.size - 1]'l10).toNat:Int) == 33)=false:=beq_false_of_ne (by omega)
        have l1:wrap64 ((S.size:Int) - 1)=((S.size - 1:Nat):Int):=by simp [wrap64];omega
        clear hsuf hbe hsz hS hpos hy hy2
        have hgd:=HD0.out
        have hbel:=HAL0.out
        have e0:(wr.alloc (.cells #[.string ⟨#[]⟩,.int .u64 0,.bool false] 73)).cell? ⟨gW,i,none⟩=some (.string (tx a)):=zAp (HBW.out.trans (hbel.mono HBW.out.size)) HGW.out HEA.out
        obtain ⟨W5,hW5⟩:∃ x,x=(wr.alloc (.cells #[.string ⟨#[]⟩,.int .u64 0,.bool false] 73)):=⟨_,rfl⟩
        have HCO:Hid (cutO b=(b,false)):=hco
        rw [← hW5] at hgd hbel
        have HW5:=yh hW5
        have HGD:=yh hgd
        have HBE:=yh hbel
        have HHL:Hid (b.length≤5000):=by
         have h1:=HBL.out
         have h2:(cutO b).1.length≤b.length:=by
          unfold cutO Lib.trimSuffix
          simp only
          split
          ·rw [List.length_take];omega
          ·exact Nat.le_refl _
         rw [HCO.out] at h2
         exact yh (Nat.le_trans h2 h1)
        clear hgd hbel hW5 hco
        go_wp2_with fail
        rw [← HW5.out]
        refine (zCl a HAL.out W5).mono ?_
        rintro e y1 ⟨rfl,hy⟩
        have hg1:=(hy.block wr.heap.size (zAG HGD.out)).trans HGD.out
        have r0:=zAA (i:=0) hg1 rfl;have r1:=zAC (i:=0) hg1
        have hg2:=zAD hg1 0 (.string (tx (eget a).1))
        have hb2:=(HBE.out.trans (hy.mono HBE.out.size)).setCell (p:=⟨wr.heap.size,0,none⟩) (Nat.le_refl _) (.string (tx (eget a).1))
        obtain ⟨x6,hx6⟩:∃ x,x=y1.setCell ⟨wr.heap.size,0,none⟩ (.string (tx (eget a).1)):=⟨_,rfl⟩
        rw [← hx6] at hb2
        have hg2':x6.heap[wr.heap.size]? = some (.cells #[.string (tx (eget a).1),.int .u64 0,.bool false] 73 (0,0)):=by rw [hx6];exact hg2
        have HX6:=yh hx6
        have HB6:=yh hb2
        have HG6:=yh hg2'
        clear hy hg1 hg2 hg2' hb2 hx6 e0
        go_wp2_with fail
        rw [← HX6.out]
      
        refine (show Calls Tryz.prog 23 #[.string S] x6 (fun e w' =>e=.returned (rav (rans b).1 (rans b).2)∧x6=w') from by rw [HS.out];exact zBb b (Nat.le_trans HHL.out (by omega)) x6).mono ?_
        rintro e y2 ⟨rfl,hw⟩
        obtain rfl:=hw
        unfold rav
        have r2:=zAA (i:=1) HG6.out rfl;have r3:=zAC (i:=1) HG6.out
        have hg3:=zAD HG6.out 1 (.int .u64 ((rans b).1:Int))
        have hb3:=HB6.out.setCell (p:=⟨wr.heap.size,1,none⟩) (Nat.le_refl _) (.int .u64 ((rans b).1:Int))
        obtain ⟨x7,hx7⟩:∃ x,x=x6.setCell ⟨wr.heap.size,1,none⟩ (.int .u64 ((rans b).1:Int)):=⟨_,rfl⟩
        rw [← hx7] at hb3
        have hg3':x7.heap[wr.heap.size]? = some (.cells #[.string (tx (eget a).1),.int .u64 ((rans b).1:Int),.bool false] 73 (0,0)):=by rw [hx7];exact hg3
        have HX7:=yh hx7
        have HB7:=yh hb3
        have HG7:=yh hg3'
        clear r0 r1 hg3 hg3' hb3 hx7
        go_upto_region 23 with fail
        rw [← HX7.out]
        clear r2 r3
        go_cut [7,10,11] from 102 to 157 (fun v7 _ _ wc =>v7=.bool ((cur && (eget a).2) && (rans b).2)∧wc=x7)
        case first =>
         cases h0:(eget a).2 <;> cases h1:(rans b).2 <;> cases cur
         all_goals (have H0:=yh h0;have H1:=yh h1;clear h0 h1;go_wp2;go_meet;exact ⟨by simp [H0.out,H1.out],rfl⟩)
        case rest =>
         obtain ⟨hv7,hwc⟩:=hcut
         obtain rfl:=hwc.symm
         obtain ⟨cur2,hc2⟩:∃ c:Bool,c=((cur && (eget a).2) && (rans b).2):=⟨_,rfl⟩
         rw [← hc2] at hv7
         subst hv7
         have HC2:=yh hc2
         obtain ⟨d,hdd⟩:∃ d:Dp,d=⟨(eget a).1,((rans b).1:Int),false⟩:=⟨_,rfl⟩
         have hdq:dq a b=d:=by unfold dq;rw [HCO.out,hdd]
         have HDQ:=yh hdq
         have hgrl:gr<wr.heap.size:=by have:=HGS2.out;omega
         have hgb7:=(HB7.out.block gr hgrl).trans HGB.out
         have ho7:=zAb HO.out HB7.out
         have hal:=(Below.refl x7.heap.size x7).alloc (Nat.le_refl _) (.cells #[.string (tx (eget a).1),.int .u64 ((rans b).1:Int),.bool false] 73)
         have hsz1:(x7.alloc (.cells #[.string (tx (eget a).1),.int .u64 ((rans b).1:Int),.bool false] 73)).heap.size=x7.heap.size+1:=by simp
         have hgl7:gr+2≤x7.heap.size:=Nat.le_trans HGS2.out HB7.out.size
         have HGL7:=yh hgl7
         have HNW:Hid (zAE (x7.alloc (.cells #[.string (tx (eget a).1),.int .u64 ((rans b).1:Int),.bool false] 73)) (x7.heap.size+1) 3 (some ⟨x7.heap.size,0,none⟩) 1 (dps [d])):=by
          have:=zCE x7 d
          rw [hdd] at this ⊢
          exact yh this
         have HOA:=yh (zAb ho7 hal)
         have HGA:=yh ((hal.block gr (by omega)).trans hgb7)
         have HDA:Hid (Below w2.heap.size w2 (x7.alloc (.cells #[.string (tx (eget a).1),.int .u64 ((rans b).1:Int),.bool false] 73))):=(HBW.out.trans (HB7.out.mono HBW.out.size)).trans (hal.mono (HBW.out.trans (HB7.out.mono HBW.out.size)).size)
         have k3:=zAA (i:=3) hgb7 rfl
         have m0:=zAA (i:=0) HG7.out rfl;have m1:=zAA (i:=1) HG7.out rfl;have m2:=zAA (i:=2) HG7.out rfl
         have HSZ1:=yh hsz1
         clear hc2 hdq hdd hgrl hgb7 ho7 hal hsz1 hgl7
         go_wp2_with (first | (at_builtin;refine zAQ _ rfl (.tmp 153) (.tmp 155) 35 rfl (gr+2) 73 id0 _ 3 32 Tryz.underlying35 hid0 hd0 hd1 hd2 rfl (by decide) (.slice Av acc.length cv) acc.length (dps acc) rfl HOA.out (some ⟨x7.heap.size,0,none⟩) 1 1 (x7.heap.size+1) (dps [d]) rfl (by intro h;cases h) HNW.out (zCa _) (by unfold maxLen;omega) (by omega) (by have:=HSZ1.out;have:=HGL7.out;omega) ?_;intro v9 w9 ho9 hg9;obtain ⟨A9,c9,rfl,_⟩:=zAL ho9;rw [← zCZ] at ho9;have HGB9:=yh ((hg9.block gr (by have:=HSZ1.out;have:=HGL7.out;omega) (fun e =>by have:=zAS HOA.out gr e.symm;omega)).trans HGA.out);have HD9:Hid (Below w2.heap.size w2 w9):=HDA.out.grown hg9 HDA.out.size (fun j hj =>by have:=zAS HOA.out j hj;have:=HGR.out;omega);have HO9:=yh ho9;have HL9:Hid (gr+2≤w9.heap.size):=Nat.le_trans (by have:=HSZ1.out;have:=HGL7.out;omega) hg9.size;clear ho9 hg9) | (refine zBr rfl (.tmp 157) (.tmp 156) rfl gr _ _ _ _ _ _ _ A9 (acc.length+1) c9 rfl rfl HGB9.out ?_;intro w10 hh10 hg10;have HH10:=yh hh10;have HG10:=yh hg10;clear hh10 hg10))
         have HST2:Hid (RtSt w2 gr m zq t u o s (t :: u :: o :: q :: s :: rest) rest ba (i+2) tl (acc++[d]) cur2 w10):=by
          refine ⟨?_,?_,fun k x hx =>?_,by have:=HLN2.out;omega,by have:=HST.out.even;simp at this;omega,by have:=HST.out.five;omega,⟨A9,c9,?_,?_,Nat.le_trans HL9.out HG10.out.size⟩,HD9.out.grown HG10.out HD9.out.size (fun j hj =>by have:=Option.some.inj hj;have:=HGR.out;omega),?_,fun e he =>?_⟩
          ·rw [HST.out.at_,dqs,HDQ.out];simp
          ·rw [HST.out.ok,doks,dok,HCO.out,HC2.out];simp [Bool.and_assoc]
          ·have:=HST.out.here (k+2) x (by simpa using hx)
           rw [show i+2+k=i+(k+2) by omega]
           exact this
          ·rw [List.length_append];exact HH10.out
          ·rw [List.length_append]
           exact zAs HO9.out (fun k hk =>HG10.out.block k (zBu HO9.out k hk) (fun e =>by have:=zAS HO9.out k hk;have:=Option.some.inj e;omega))
          ·rw [List.length_append,List.length_singleton];have:=HST.out.few;simp at this;omega
          ·rcases List.mem_append.1 he with he | he
           ·exact HST.out.dp e he
           ·obtain rfl:=List.mem_singleton.1 he
            rw [← HDQ.out]
            exact zDo HAL.out
         exact ⟨⟨i+2,tl,acc++[d],cur2,rfl,by go_num,HST2.out⟩,by have:=HIM.out;simp [intOf];omega⟩
end Go.Proofs.YtgoklhoaedceaaaGreatDoor
