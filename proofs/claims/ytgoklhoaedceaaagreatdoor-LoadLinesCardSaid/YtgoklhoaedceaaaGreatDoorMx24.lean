/- Texts of one proof. -/
import Derived.Carry
import Derived.HandedShaped
import Derived.LaidMore
import Derived.Lib.ItoaNum
import Derived.Lib.LaidTab
import Derived.MakeChecks
import Derived.Stop.LaidErr
import Derived.Test.YtgoklhoaedceaaaGreatDoorRows
import Derived.Test.YtgoklhoaedceaaaGreatDoorMx23
set_option maxRecDepth 100000
set_option maxHeartbeats 8000000
namespace Go.Proofs.YtgoklhoaedceaaaGreatDoor
open Go.RowKit
def LL (line:List UInt8) (r:Rc) (l:List Dp) (ec:Int):Prop:=(zAy line r l∧ec=0)∨((∀ r l,¬ zAy line r l)∧r=⟨0,[],0,0,0,[]⟩∧l=[]∧ec=3)
theorem LL.one {line:List UInt8} {r s:Rc} {l m:List Dp} {a b:Int} (h:LL line r l a) (g:LL line s m b):r=s∧l=m∧a=b:=by
 rcases h with ⟨h,rfl⟩ | ⟨h,rfl,rfl,rfl⟩
 ·rcases g with ⟨g,rfl⟩ | ⟨g,_⟩
  ·have h1:=h.read
   rw [g.read] at h1
   have h2:=Option.some.inj h1
   exact ⟨(congrArg Prod.fst h2).symm,(congrArg Prod.snd h2).symm,rfl⟩
  ·exact absurd h (g _ _)
 ·rcases g with ⟨g,_⟩ | ⟨_,rfl,rfl,rfl⟩
  ·exact absurd g (h _ _)
  ·exact ⟨rfl,rfl,rfl⟩
theorem LL.few {line:List UInt8} {r:Rc} {l:List Dp} {ec:Int} (h:LL line r l ec):l.length≤60:=by
 rcases h with ⟨h,_⟩ | ⟨_,_,rfl,_⟩
 ·have:=zCH h.2.2.2.1
  omega
 ·simp
theorem zDL.form {line:List UInt8} {w w':World} {e:Ending} (h:zDL line w e w') :
  ∃ k t u o m g l A n c ec,LL line ⟨k,t,u,o,m,g⟩ l ec∧e=.returned (.tuple #[.agg #[.int .i64 k,.string (tx t),.int .u64 u,.slice A n c,.int .u64 o,.int .u64 m,.string (tx g)],.int .i64 ec])∧zAE w' w'.heap.size 3 A n (dps l)∧n≤1000∧Below w.heap.size w w':=by
 obtain ⟨h,hb⟩:=h
 rcases h with ⟨r,l,A,n,c,hl,rfl,ho⟩ | ⟨hn,rfl⟩
 ·have hln:=LL.few (.inl ⟨hl,rfl⟩:LL line r l 0)
  obtain ⟨k,t,u,o,m,g⟩:=r
  exact ⟨k,t,u,o,m,g,l,A,n,c,0,.inl ⟨hl,rfl⟩,rfl,zAE.of_own ho,by have h1:=(zAE.of_own ho).1;rw [zAd] at h1;omega,hb⟩
 ·exact ⟨0,[],0,0,0,[],[],none,0,0,3,.inr ⟨hn,rfl,rfl,rfl⟩,rfl,zAE.none_,by omega,hb⟩
theorem zFb:∀ ws:List (List UInt8),(zAU ws).length≤(ws.map fun x =>x.length+1).sum
 | [] =>by simp [zDq]
 | [a] =>by rw [zBL];simp
 | a :: b :: ws =>by
  rw [zAm a (b :: ws) (by simp),List.length_append,List.length_cons,List.map_cons,List.sum_cons]
  have:=zFb (b :: ws)
  omega
theorem zFO:∀ l:List Dp,(∀ d ∈ l,d.name.length≤64)→((l.flatMap zAe).map fun x =>x.length+1).sum≤240 * l.length
 | [],_ =>by simp
 | d :: l,h =>by
  have h1:=zFO l (fun e he =>h e (List.mem_cons_of_mem _ he))
  have h2:=h d (List.mem_cons_self ..)
  have h3:=zBX d.name
  rw [List.flatMap_cons,List.map_append,List.sum_append,List.length_cons]
  have h4:((zAe d).map fun x =>x.length+1).sum≤240:=by
   unfold zAe
   have h5:=zFY d
   simp only [List.map_cons,List.map_nil,List.sum_cons,List.sum_nil]
   omega
  omega
theorem zEV {x:Rw} (h:zBA x) (hk:lnOk x):(lnT x).length≤5000:=by
 obtain ⟨r,A,n,c,l⟩:=x
 obtain ⟨_,⟨_,_,⟨m0,m1⟩,_⟩,_⟩:=h
 obtain ⟨h1,h2,h3,h4⟩:=zCH hk.2
 simp only at m0 m1 h1 h2 h3 h4
 unfold lnT
 refine Nat.le_trans (zFb _) ?_
 unfold zAu
 rw [List.map_append,List.sum_append]
 have h5:=zFO l h4
 have p1:=zBX r.target
 have p2:=zBX r.tag
 have p3:=zEz (show r.time.toNat<18446744073709551616 by omega)
 have h6:((zAi r.target r.rule.toNat r.out.toNat r.time.toNat r.tag).map fun x =>x.length+1).sum≤600:=by
  unfold zAi
  simp only [List.map_cons,List.map_nil,List.sum_cons,List.sum_nil,zAr]
  omega
 simp only
 omega
theorem zLj {x:Rw} (h:zBA x) (hk:lnOk x):LL (lnT x) x.r x.l 0:=.inl ⟨⟨h.1,h.2.1,hk.1,hk.2,rfl⟩,rfl⟩
theorem zBN {w:World} {b:Nat} {o:Obj} (h:w.heap[b]? = some o):b<w.heap.size:=(Array.getElem?_eq_some_iff.1 h).1
theorem zAw {w w':World} {b B:Nat} {o:Obj} (h:w.heap[b]? = some o) (hb:Below B w w') (hl:b<B):w'.heap[b]? = some o:=(hb.block b hl).trans h
theorem zHr (line:List UInt8) (r:Rc) (A:Option Addr) (n c:Nat) (l:List Dp) (hn:n≤maxLen) (hfit:Fits r l) (hnu:Nums r l) (w:World) (hl:Laid w) (hp:zAl w) (he:zAx w) (hsh:w.ShapedOpen Tryz.prog) (h:zAE w w.heap.size 3 A n (dps l)) :
  Calls Tryz.prog 5 #[.string (tx line),rcv r A n c] w fun e w' =>e=.returned (.bool true)∧Below w.heap.size w w':=by
 have HGR:Hid (∀ W,Below w.heap.size w W→Calls Tryz.prog 13 #[rcv r A n c] W fun e w' =>zAX (¬ zBF r l) e∧Below W.heap.size W w'):=fun W hW =>
  zDR r A n c l W hn hfit.2.2 hfit.1 hfit.2.1 ((h.below hW).more hW.size)
 have HF:=yh (fun (W:World) (hW:Below w.heap.size w W) =>zCV W (hl.below hW) (hp.below hW) (zAW hsh hW))
 have HLA:=yh (fun (s:List UInt8) (hs:s.length≤5000) (W:World) (hW:Below w.heap.size w W) =>zFe s hs W (hp.below hW) (he.below hW) (zAW hsh hW))
 have HRA:=yh (fun (s:List UInt8) (hs:s.length≤5000) (W:World) =>zFl s hs W)
 have HRD:=yh (fun (W:World) (hW:Below w.heap.size w W) =>(h.below hW).more hW.size)
 have HDL:=yh (fun (hsm:zBF r l) (W:World) (hW:Below w.heap.size w W) =>zGR ⟨r,A,n,c,l⟩ ⟨hfit,hnu,hsm⟩ W (hp.below hW) ((h.below hW).more hW.size))
 have HSH:=yh (fun (hsm:zBF r l) (hk:lnOk ⟨r,A,n,c,l⟩) =>zEV (x:=⟨r,A,n,c,l⟩) ⟨hfit,hnu,hsm⟩ hk)
 have HLO:=yh (fun (hsm:zBF r l) (hk:lnOk ⟨r,A,n,c,l⟩) =>zLj (x:=⟨r,A,n,c,l⟩) ⟨hfit,hnu,hsm⟩ hk)
 clear hl hp he hsh h hfit hnu
 obtain ⟨k,t,u,o,m,g⟩:=r
 unfold rcv rsv at *
 simp only at HGR HDL ⊢
 have H0:=yh (zAI w (.cells #[.int .i64 k,.string (tx t),.int .u64 u,.slice A n c,.int .u64 o,.int .u64 m,.string (tx g)] 37))
 have HB0:=yh ((Below.refl w.heap.size w).alloc (Nat.le_refl _) (.cells #[.int .i64 k,.string (tx t),.int .u64 u,.slice A n c,.int .u64 o,.int .u64 m,.string (tx g)] 37))
 by_cases h5:line.length≤5000
 ·have H5:=yh h5
  have hsz:((tx line).size:Int)≤5000:=by rw [zAK];omega
  by_cases hsm:zBF ⟨k,t,u,o,m,g⟩ l
  ·have HSM:=yh hsm
   have HG:=yh (fun W hW =>(HGR.out W hW).mono fun e w' (h2:zAX (¬ zBF ⟨k,t,u,o,m,g⟩ l) e∧Below W.heap.size W w') =>(⟨h2.1.no (fun hx =>hx hsm),h2.2⟩:e=.returned (.bool false)∧Below W.heap.size W w'))
   clear hsm HGR h5 hn
   go_enter Tryz.func5,Tryz.ntmps5
   have q0:=zAA (i:=0) H0.out rfl
   have q1:=zAA (i:=1) H0.out rfl
   have q2:=zAA (i:=2) H0.out rfl
   have q3:=zAA (i:=3) H0.out rfl
   have q4:=zAA (i:=4) H0.out rfl
   have q5:=zAA (i:=5) H0.out rfl
   have q6:=zAA (i:=6) H0.out rfl
   go_wp2_with fail
   refine (HG.out _ HB0.out).mono ?_
   rintro e w1 ⟨rfl,b1⟩
   clear q0 q1 q2 q3 q4 q5 q6
   have h3_w1:=zAw H0.out b1 (zBN H0.out)
   have HB_w1:=yh (HB0.out.trans (b1.mono HB0.out.size))
   have H3_w1:=yh h3_w1
   clear h3_w1 b1
   go_wp2_with fail
   refine (HLA.out line H5.out _ HB_w1.out).mono ?_
   rintro e w2 h2
   obtain ⟨k2,t2,u2,o2,m2,g2,l2,A2,n2,c2,ec2,hL,rfl,hrd,hn2,b2⟩:=h2.form
   clear h2
   have HL2:=yh hL
   have HN2:=yh hn2
   have R2_w2:=yh hrd
   clear hL hrd hn2
   have h3_w2:=zAw H3_w1.out b2 (zBN H3_w1.out)
   have HB_w2:=yh (HB_w1.out.trans (b2.mono HB_w1.out.size))
   have H3_w2:=yh h3_w2
   clear h3_w2 b2
   go_wp2_with fail
   obtain ⟨x2,hx⟩:∃ x,x=w2.alloc (.cells #[.int .i64 k2,.string (tx t2),.int .u64 u2,.slice A2 n2 c2,.int .u64 o2,.int .u64 m2,.string (tx g2)] 37):=⟨_,rfl⟩
   have bx:Below w2.heap.size w2 x2:=by rw [hx];exact (Below.refl _ _).alloc (Nat.le_refl _) _
   have nx:x2.heap[w2.heap.size]? = some (.cells #[.int .i64 k2,.string (tx t2),.int .u64 u2,.slice A2 n2 c2,.int .u64 o2,.int .u64 m2,.string (tx g2)] 37 (0,0)):=by rw [hx];exact zAI _ _
   have H5_x2:=yh nx
   clear nx
   rw [← hx]
   clear hx
   have h3_x2:=zAw H3_w2.out bx (zBN H3_w2.out)
   have r2_x2:=(R2_w2.out.below bx).more bx.size
   have HB_x2:=yh (HB_w2.out.trans (bx.mono HB_w2.out.size))
   have H3_x2:=yh h3_x2
   have R2_x2:=yh r2_x2
   clear h3_x2 r2_x2 bx
   refine (HRA.out line H5.out _).mono ?_
   rintro e w3 h2
   obtain ⟨k3,t3,u3,o3,m3,g3,l3,A3,n3,c3,ec3,hL,rfl,hrd,hn3,b2⟩:=h2.form
   clear h2
   have HL3:=yh hL
   have HN3:=yh hn3
   have R3_w3:=yh hrd
   clear hL hrd hn3
   have h3_w3:=zAw H3_x2.out b2 (zBN H3_x2.out)
   have h5_w3:=zAw H5_x2.out b2 (zBN H5_x2.out)
   have r2_w3:=(R2_x2.out.below b2).more b2.size
   have HB_w3:=yh (HB_x2.out.trans (b2.mono HB_x2.out.size))
   have H3_w3:=yh h3_w3
   have H5_w3:=yh h5_w3
   have R2_w3:=yh r2_w3
   clear h3_w3 h5_w3 r2_w3 b2
   obtain ⟨hr,hl2,he2⟩:=HL2.out.one HL3.out
   cases hr
   cases hl2
   cases he2
   have bx:Below w3.heap.size w3 (w3.alloc (.cells #[.int .i64 k2,.string (tx t2),.int .u64 u2,.slice A3 n3 c3,.int .u64 o2,.int .u64 m2,.string (tx g2)] 37)):=(Below.refl _ _).alloc (Nat.le_refl _) _
   have HBX:=yh bx
   have nx7:(w3.alloc (.cells #[.int .i64 k2,.string (tx t2),.int .u64 u2,.slice A3 n3 c3,.int .u64 o2,.int .u64 m2,.string (tx g2)] 37)).heap[w3.heap.size]? = some (.cells #[.int .i64 k2,.string (tx t2),.int .u64 u2,.slice A3 n3 c3,.int .u64 o2,.int .u64 m2,.string (tx g2)] 37 (0,0)):=zAI _ _
   have nx5:=zAw H5_w3.out bx (zBN H5_w3.out)
   have qa0:=zAA (i:=0) nx5 rfl
   have qa1:=zAA (i:=1) nx5 rfl
   have qa2:=zAA (i:=2) nx5 rfl
   have qa3:=zAA (i:=3) nx5 rfl
   have qa4:=zAA (i:=4) nx5 rfl
   have qa5:=zAA (i:=5) nx5 rfl
   have qa6:=zAA (i:=6) nx5 rfl
   have qb0:=zAA (i:=0) nx7 rfl
   have qb1:=zAA (i:=1) nx7 rfl
   have qb2:=zAA (i:=2) nx7 rfl
   have qb3:=zAA (i:=3) nx7 rfl
   have qb4:=zAA (i:=4) nx7 rfl
   have qb5:=zAA (i:=5) nx7 rfl
   have qb6:=zAA (i:=6) nx7 rfl
   clear nx7 nx5 bx
   go_wp2_with fail
   clear qa0 qa1 qa2 qa3 qa4 qa5 qa6
   clear qb0 qb1 qb2 qb3 qb4 qb5 qb6
   obtain ⟨x3,hx⟩:∃ x,x=w3.alloc (.cells #[.int .i64 k2,.string (tx t2),.int .u64 u2,.slice A3 n3 c3,.int .u64 o2,.int .u64 m2,.string (tx g2)] 37):=⟨_,rfl⟩
   have bx:Below w3.heap.size w3 x3:=by rw [hx];exact (Below.refl _ _).alloc (Nat.le_refl _) _
   have nx:x3.heap[w3.heap.size]? = some (.cells #[.int .i64 k2,.string (tx t2),.int .u64 u2,.slice A3 n3 c3,.int .u64 o2,.int .u64 m2,.string (tx g2)] 37 (0,0)):=by rw [hx];exact zAI _ _
   have H7_x3:=yh nx
   clear nx
   rw [← hx]
   clear hx
   have h3_x3:=zAw H3_w3.out bx (zBN H3_w3.out)
   have h5_x3:=zAw H5_w3.out bx (zBN H5_w3.out)
   have r2_x3:=(R2_w3.out.below bx).more bx.size
   have r3_x3:=(R3_w3.out.below bx).more bx.size
   have HB_x3:=yh (HB_w3.out.trans (bx.mono HB_w3.out.size))
   have H3_x3:=yh h3_x3
   have H5_x3:=yh h5_x3
   have R2_x3:=yh r2_x3
   have R3_x3:=yh r3_x3
   clear h3_x3 h5_x3 r2_x3 r3_x3 bx
   refine (zCy ⟨k2,t2,u2,o2,m2,g2⟩ ⟨k2,t2,u2,o2,m2,g2⟩ A2 A3 n2 n3 c2 c3 l2 l2 (by have:=HN2.out;omega) _ R2_x3.out R3_x3.out).mono ?_
   rintro e w4 ⟨z,hz,rfl,b4⟩
   obtain rfl:z=true:=hz.2 ⟨rfl,rfl⟩
   clear hz
   have h3_w4:=zAw H3_x3.out b4 (zBN H3_x3.out)
   have HB_w4:=yh (HB_x3.out.trans (b4.mono HB_x3.out.size))
   have H3_w4:=yh h3_w4
   clear h3_w4 b4
   have q0:=zAA (i:=0) H3_w4.out rfl
   have q1:=zAA (i:=1) H3_w4.out rfl
   have q2:=zAA (i:=2) H3_w4.out rfl
   have q3:=zAA (i:=3) H3_w4.out rfl
   have q4:=zAA (i:=4) H3_w4.out rfl
   have q5:=zAA (i:=5) H3_w4.out rfl
   have q6:=zAA (i:=6) H3_w4.out rfl
   go_wp2_with fail
   clear q0 q1 q2 q3 q4 q5 q6
   refine (HDL.out HSM.out _ HB_w4.out).mono ?_
   rintro e w5 ⟨h2,b5⟩
   have h3_w5:=zAw H3_w4.out b5 (zBN H3_w4.out)
   have HB_w5:=yh (HB_w4.out.trans (b5.mono HB_w4.out.size))
   have H3_w5:=yh h3_w5
   clear h3_w5 b5
   obtain ⟨S,gc,hS,hgc,rfl⟩:∃ (S:List UInt8) (gc:Int),S.length≤5000∧(gc=0∧LL S ⟨k,t,u,o,m,g⟩ l 0∨gc=1)∧e=.returned (.tuple #[.string (tx S),.int .i64 gc]):=by
    rcases h2 with ⟨hk,he⟩ | ⟨_,he⟩
    ·exact ⟨_,0,HSH.out HSM.out hk,.inl ⟨rfl,HLO.out HSM.out hk⟩,he⟩
    ·exact ⟨[],1,by simp,.inr rfl,he⟩
   have HS:=yh hS
   have HGC:=yh hgc
   clear h2 hS hgc
   go_wp2_with fail
   refine (HLA.out S HS.out _ HB_w5.out).mono ?_
   rintro e w6 h2
   obtain ⟨k6,t6,u6,o6,m6,g6,l6,A6,n6,c6,ec6,hL,rfl,hrd,hn6,b2⟩:=h2.form
   clear h2
   have HL6:=yh hL
   have HN6:=yh hn6
   have R6_w6:=yh hrd
   clear hL hrd hn6
   have h3_w6:=zAw H3_w5.out b2 (zBN H3_w5.out)
   have HB_w6:=yh (HB_w5.out.trans (b2.mono HB_w5.out.size))
   have H3_w6:=yh h3_w6
   clear h3_w6 b2
   go_wp2_with fail
   obtain ⟨x6,hx⟩:∃ x,x=w6.alloc (.cells #[.int .i64 k6,.string (tx t6),.int .u64 u6,.slice A6 n6 c6,.int .u64 o6,.int .u64 m6,.string (tx g6)] 37):=⟨_,rfl⟩
   have bx:Below w6.heap.size w6 x6:=by rw [hx];exact (Below.refl _ _).alloc (Nat.le_refl _) _
   have nx:x6.heap[w6.heap.size]? = some (.cells #[.int .i64 k6,.string (tx t6),.int .u64 u6,.slice A6 n6 c6,.int .u64 o6,.int .u64 m6,.string (tx g6)] 37 (0,0)):=by rw [hx];exact zAI _ _
   have H11_x6:=yh nx
   clear nx
   rw [← hx]
   clear hx
   have h3_x6:=zAw H3_w6.out bx (zBN H3_w6.out)
   have r6_x6:=(R6_w6.out.below bx).more bx.size
   have HB_x6:=yh (HB_w6.out.trans (bx.mono HB_w6.out.size))
   have H3_x6:=yh h3_x6
   have R6_x6:=yh r6_x6
   clear h3_x6 r6_x6 bx
   refine (HF.out _ HB_x6.out).mono ?_
   rintro e w7 ⟨rfl,b7⟩
   have h3_w7:=zAw H3_x6.out b7 (zBN H3_x6.out)
   have h11_w7:=zAw H11_x6.out b7 (zBN H11_x6.out)
   have r6_w7:=(R6_x6.out.below b7).more b7.size
   have HB_w7:=yh (HB_x6.out.trans (b7.mono HB_x6.out.size))
   have H3_w7:=yh h3_w7
   have H11_w7:=yh h11_w7
   have R6_w7:=yh r6_w7
   clear h3_w7 h11_w7 r6_w7 b7
   rcases HGC.out with ⟨rfl,hLL⟩ | rfl
   ·obtain ⟨hr,hl2,he2⟩:=hLL.one HL6.out
    cases hr
    cases hl2
    cases he2
    clear hLL
    have qa0:=zAA (i:=0) H11_w7.out rfl
    have qa1:=zAA (i:=1) H11_w7.out rfl
    have qa2:=zAA (i:=2) H11_w7.out rfl
    have qa3:=zAA (i:=3) H11_w7.out rfl
    have qa4:=zAA (i:=4) H11_w7.out rfl
    have qa5:=zAA (i:=5) H11_w7.out rfl
    have qa6:=zAA (i:=6) H11_w7.out rfl
    have qb0:=zAA (i:=0) H3_w7.out rfl
    have qb1:=zAA (i:=1) H3_w7.out rfl
    have qb2:=zAA (i:=2) H3_w7.out rfl
    have qb3:=zAA (i:=3) H3_w7.out rfl
    have qb4:=zAA (i:=4) H3_w7.out rfl
    have qb5:=zAA (i:=5) H3_w7.out rfl
    have qb6:=zAA (i:=6) H3_w7.out rfl
    go_wp2_with fail
    clear qa0 qa1 qa2 qa3 qa4 qa5 qa6
    clear qb0 qb1 qb2 qb3 qb4 qb5 qb6
    refine (zCy ⟨k,t,u,o,m,g⟩ ⟨k,t,u,o,m,g⟩ A6 A n6 n c6 c l l (by have:=HN6.out;omega) _ R6_w7.out (HRD.out _ HB_w7.out)).mono ?_
    rintro e w8 ⟨z,hz,rfl,b8⟩
    obtain rfl:z=true:=hz.2 ⟨rfl,rfl⟩
    have HB8:=yh (HB_w7.out.trans (b8.mono HB_w7.out.size))
    clear hz b8
    go_wp2
    go_ret
    exact ⟨rfl,HB8.out⟩
   ·go_wp2
    go_ret
    exact ⟨rfl,HB_w7.out⟩
  ·skip
   have HG:=yh (fun W hW =>(HGR.out W hW).mono fun e w' (h2:zAX (¬ zBF ⟨k,t,u,o,m,g⟩ l) e∧Below W.heap.size W w') =>(⟨h2.1.yes hsm,h2.2⟩:e=.returned (.bool true)∧Below W.heap.size W w'))
   clear hsm HGR h5 hn HDL HSH HLO HRD HRA HLA H5
   go_enter Tryz.func5,Tryz.ntmps5
   have q0:=zAA (i:=0) H0.out rfl
   have q1:=zAA (i:=1) H0.out rfl
   have q2:=zAA (i:=2) H0.out rfl
   have q3:=zAA (i:=3) H0.out rfl
   have q4:=zAA (i:=4) H0.out rfl
   have q5:=zAA (i:=5) H0.out rfl
   have q6:=zAA (i:=6) H0.out rfl
   go_wp2_with fail
   refine (HG.out _ HB0.out).mono ?_
   rintro e w1 ⟨rfl,b1⟩
   clear q0 q1 q2 q3 q4 q5 q6
   have h3_w1:=zAw H0.out b1 (zBN H0.out)
   have HB_w1:=yh (HB0.out.trans (b1.mono HB0.out.size))
   have H3_w1:=yh h3_w1
   clear h3_w1 b1
   go_wp2_with fail
   refine (HF.out _ HB_w1.out).mono ?_
   rintro e w2 ⟨rfl,b2⟩
   have HB2:=yh (HB_w1.out.trans (b2.mono HB_w1.out.size))
   clear b2
   go_wp2
   go_ret
   exact ⟨rfl,HB2.out⟩
 ·have hsz:5000<((tx line).size:Int):=by rw [zAK];omega
  clear HGR h5 hn HDL HSH HLO HRD HRA HLA
  go_enter Tryz.func5,Tryz.ntmps5
  go_wp2_with fail
  refine (HF.out _ HB0.out).mono ?_
  rintro e w2 ⟨rfl,b2⟩
  have HB2:=yh (HB0.out.trans (b2.mono HB0.out.size))
  clear b2
  go_wp2
  go_ret
  exact ⟨rfl,HB2.out⟩
open Go.ChangeShapes Go.WideShapes Go.ChangeAt Go.RowKit
theorem zKk:Tryz.prog.globalNamed "tephra/crc.halves" = some 0:=by kernel_rfl
theorem zLE:(Tryz.prog.globals[0]?).map (·.type)=some 97:=by kernel_rfl
theorem zKd:Tryz.prog.cellsOf 70=1:=by kernel_rfl
theorem zGK {P:Program} {W:World} {n:String} {g len:Nat} {t e:TypeId} {k:IntKind} {zs:List Int} {l:List (String×DataW Unit)} {ps:List MemPlace} (hg:P.globalNamed n=some g) (ht0:(P.globals[g]?).map (·.type)=some t)
  (ht:P.underlying t=some (.array len e)) (he:P.underlying e=some (.int k)) (hc:P.cellsOf e=1) (h:DataW.LaidVars P W ((n,.agg (zs.map fun z =>.lit (.int k z))) :: l) ps) :
  ∀ (i:Nat) (z:Int),zs[i]? = some z→W.cell? ⟨g,i,none⟩=some (.int k z):=by
 obtain ⟨g',t',cs,fuel,p,q,hg',ht',hvar,hd,_,_⟩:=h
 obtain rfl:=Option.some.inj (hg.symm.trans hg')
 obtain rfl:=Option.some.inj (ht0.symm.trans ht')
 obtain ⟨xs,m,rfl,hx,hlen,hxl,hel⟩:=DataW.trod_array ht hd
 simp only [Prod.mk.injEq,DataW.agg.injEq] at hx
 intro i z hz
 have h1:(xs.map (·.1))[i]? = some (.lit (.int k z)):=by rw [← hx.1,List.getElem?_map,hz];rfl
 rw [List.getElem?_map] at h1
 obtain ⟨y,hy,hy1⟩:=Option.map_eq_some_iff.1 h1
 have hi:i<len:=by rw [← hxl];exact (List.getElem?_eq_some_iff.1 hy).1
 have h2:=hel i hi
 rw [hy,hc,Nat.mul_one] at h2
 obtain ⟨n',e1,e2,_⟩:=DataW.trod_int he h2
 rw [e2] at hy1
 have hnz:n'=z:=by simpa using hy1
 subst hnz
 have h3:cs.toList[i]? = some (.int k n'):=by
  have:=congrArg (fun l:List Value =>l[0]?) e1
  simpa [List.getElem?_take,List.getElem?_drop] using this
 rw [World.var?_cell hg hvar i]
 simpa using h3
theorem zCP {P:Program} {W:World} {x:String×DataW Unit} {l:List (String×DataW Unit)} {ps:List MemPlace} (h:DataW.LaidVars P W (x :: l) ps):∃ qs,DataW.LaidVars P W l qs:=by
 obtain ⟨x1,x2⟩:=x
 obtain ⟨g',t',cs,fuel,p,q,hg',ht',hvar,hd,hq,_⟩:=h
 exact ⟨_,hq⟩
theorem gPow:Tryz.prog.globalNamed "internal/strconv.uint64pow10" = some 2:=by kernel_rfl
theorem tPow:(Tryz.prog.globals[2]?).map (·.type)=some 139:=by kernel_rfl
theorem zLh:Tryz.prog.cellsOf 34=1:=by kernel_rfl
theorem cPow:Tryz.prog.cellsOf 139=20:=by kernel_rfl
theorem dPow:(Rows.laid_internal_strconv_uint64pow10:DataW Unit)=Lib.tabData .u64 Lib.pow10Tab:=by kernel_rfl
abbrev zEo:List (String×DataW Unit):=[("math/bits.deBruijn32tab",Rows.laid_math_bits_deBruijn32tab),("math/bits.deBruijn64tab",Rows.laid_math_bits_deBruijn64tab),("internal/strconv.uint64pow10",Rows.laid_internal_strconv_uint64pow10),("tephra/crc.halves",Rows.laid_tephra_crc_halves),("unicode/utf8.acceptRanges",Rows.laid_unicode_utf8_acceptRanges),("strconv.ErrRange",Rows.laid_strconv_ErrRange),("strconv.ErrSyntax",Rows.laid_strconv_ErrSyntax),("unicode/utf8.first",Rows.laid_unicode_utf8_first)]
theorem zKX:Tryz.prog.globalNamed "strconv.ErrRange" = some 4:=by kernel_rfl
theorem zLp:(Tryz.prog.globals[4]?).map (·.type)=some 63:=by kernel_rfl
theorem zKY:Tryz.prog.globalNamed "strconv.ErrSyntax" = some 3:=by kernel_rfl
theorem zLq:(Tryz.prog.globals[3]?).map (·.type)=some 63:=by kernel_rfl
theorem zKZ:"*" ++ "errors.errorString" = "*errors.errorString":=by decide
theorem rowE (u:TypeId) (h:Tryz.prog.typeName? 3 u=some "*errors.errorString"):u=163 :=
 typeName_ptr_named (nm:="errors.errorString") (by rw [zKZ];kernel_rfl) (by kernel_rfl) (by decide) u (by rw [zKZ];exact h)
theorem zKR:Tryz.prog.cellsOf 165=1:=by kernel_rfl
theorem zKS:Tryz.prog.cellsOf 9=1:=by kernel_rfl
theorem zGb {W:World} (h:laidMetH Tryz.prog zEo W):laidMet Tryz.prog zEo W:=by
 rw [MakeChecks.laidMetH_plain _ _ _ (by kernel_rfl)] at h
 exact h
theorem zDZ {W:World} (h:laidMetH Tryz.prog zEo W):Laid W:=by
 obtain ⟨ps,h0,_⟩:=zGb h
 obtain ⟨_,h1⟩:=zCP h0
 obtain ⟨_,h2⟩:=zCP h1
 obtain ⟨_,h3⟩:=zCP h2
 have h4:=zGK (zs:=tab.map (fun n:Nat =>(n:Int))) zKk zLE Tryz.underlying97 Tryz.underlying70 zKd h3
 intro i hi
 refine h4 i (tabN i) ?_
 have:∀ j:Fin 16,(tab.map (fun n:Nat =>(n:Int)))[j.val]? = some ((tabN j.val:Nat):Int):=by decide
 exact this ⟨i,hi⟩
theorem zCw {W:World} (h:laidMetH Tryz.prog zEo W):zAl W:=by
 obtain ⟨ps,h0,_⟩:=zGb h
 obtain ⟨_,h1⟩:=zCP h0
 obtain ⟨_,h2⟩:=zCP h1
 rw [dPow] at h2
 obtain ⟨g',t',cs,fuel,p,q,hg',ht',hvar,hd,_,_⟩:=h2
 obtain rfl:=Option.some.inj (gPow.symm.trans hg')
 obtain rfl:=Option.some.inj (tPow.symm.trans ht')
 unfold zAl Lib.TabIs
 rw [hvar,← Lib.cells_of_tab Tryz.underlying139 Tryz.underlying34 zLh cPow hd]
theorem zCt {W:World} (h:laidMetH Tryz.prog zEo W):zAx W:=by
 have h5:=(zGb h).tail.tail.tail.tail.tail
 obtain ⟨a1,s1,hv1,_⟩:=laid_sentinel h5 zKX zLp Tryz.underlying63 rowE Tryz.underlying163 Tryz.underlying165 rfl rfl Tryz.underlying9 zKR zKS
 obtain ⟨a2,s2,hv2,_⟩:=laid_sentinel h5.tail zKY zLq Tryz.underlying63 rowE Tryz.underlying163 Tryz.underlying165 rfl rfl Tryz.underlying9 zKR zKS
 exact ⟨⟨_,_,(World.var?_cell zKY hv2 0).trans rfl⟩,_,_,(World.var?_cell zKX hv1 0).trans rfl⟩
theorem zBT {H:Type} {enc:TypeId×Value→H} {a:Assume} {C:Checked} {os:Os} {f:FuncId} {fn:Func} {s:ChangeSpec} {conds:List PathCond} {apart fresh handsOn again:Bool} {X:World→Array Value→Prop}
  (hX:∀ (w w':World) (args:Array Value),w.heap=w'.heap→X w args→X w' args)
  (own:ownKnob C.prog.godebug=none) (started:os.Started) (noInit:C.prog.inits.idxOf? f=none) (hfn:C.prog.funcs[f]? = some fn)
  (witness:∃ (w:World) (tape:Tape) (i:Input),w.os=os∧(w.forCall tape i).Shaped C.prog∧i.vars=[]∧Input.okWide C.prog (w.forCall tape i) .any w.heap.size f i ∧
   ((s.pre enc C.prog fn conds apart (w.forCall tape i).memory i.args∧X (w.forCall tape i).memory i.args)∧sizedMet enc C.prog fn (OpenSpec.ofChange s) apart (w.forCall tape i).memory i.args)∧a.holds C.prog (lone (Frame.enter C.prog f i.args .normal) [] (w.forCall tape i)))
  (contract:∀ (W:World) (base:Nat) (args:Array Value) (ds gs:List (DataW H)) (before:List MemPlace),
   (∀ (j:Nat) t v,fn.params[j]? = some t→args[j]? = some v→Value.okWide C.prog W .any base t v) →
   DataW.Whole enc C.prog fn.params.toList s.vars apart W args.toList ds gs before→W.ShapedOpen C.prog→X W args →
   Calls C.prog f args W fun e W' =>∃ v,e=.returned v∧s.post enc C.prog fn apart fresh handsOn again W args v W') :
  ReturnsInHanded a C os f .any (fun w args =>(s.pre enc C.prog fn conds apart w args∧X w args)∧sizedMet enc C.prog fn (OpenSpec.ofChange s) apart w args) (s.post enc C.prog fn apart fresh handsOn again):=by
 refine returnsInHanded_of_calls own started noInit witness ?_
 intro w tape i _ hsh _ hok hpre _
 obtain ⟨_,_,_,fn',hfn',_,_,_,_,hval⟩:=hok
 have e:fn'=fn:=Option.some.inj (hfn'.symm.trans hfn)
 subst e
 obtain ⟨⟨⟨ds,gs,before,hw,hc⟩,hx⟩,hz⟩:=hpre
 have hw':=DataW.Whole.of_heap (w':=w.forCall tape i) (by rfl) hw
 refine (contract (w.forCall tape i) w.heap.size i.args ds gs before hval hw' hsh (hX _ _ _ (by rfl) hx)).mono fun e W' ⟨v,he,hp⟩ =>?_
 subst he
 exact ChangeSpec.post_blind hp
theorem zDj {H:Type} {enc:TypeId×Value→H} {P:Program} (hl:laidOutB P=true) {W W':World} (hb:Below W.heap.size W W') :
  ∀ {ts:List TypeId} {vs:List Value} {ds:List (DataW H)} {ps:List MemPlace},(∀ t ∈ ts,P.readableRec t=true∧t<P.types.size) →
   DataW.TrodAll enc P W 0 (fun _ =>true) true ts vs ds ps→(∀ x ∈ ps,x.block<W.heap.size)→DataW.TrodAll enc P W' 0 (fun b =>decide (b<W.heap.size)) true ts vs ds ps
 | [],vs,ds,ps,_,h,_ =>by
  obtain ⟨rfl,rfl,rfl⟩:=trodAll_nil h
  exact trodAll_mk0
 | t :: ts,vs,ds,ps,hr,h,hlt =>by
  obtain ⟨v,vs1,d,ds1,a,b,rfl,rfl,rfl,h1,h2⟩:=trodAll_cons h
  have ht:=hr t (by simp)
  exact trodAll_cons_mk (Below.trod hl ht.1 ht.2 h1 hb (fun x hx =>hlt x (by simp [hx])))
   (zDj hl hb (fun t' h' =>hr t' (by simp [h'])) h2 (fun x hx =>hlt x (by simp [hx])))
theorem zDV {H:Type} {enc:TypeId×Value→H} {P:Program} {f:Func} {s:ChangeSpec} {tb:TypeId} (hl:laidOutB P=true) (htb:P.underlying tb=some .bool)
  (hres:f.resultTypes=#[tb]) (hpar:∀ t ∈ f.params.toList,P.readableRec t=true∧t<P.types.size) (hvars:s.vars=[])
  {W W':World} {args:Array Value} {ds gs:List (DataW H)} {before:List MemPlace}
  (hW:DataW.Whole enc P f.params.toList s.vars false W args.toList ds gs before) (hb:Below W.heap.size W W')
  (hfn:s.fn H (ds++gs)={ results:=[.lit (.bool true)],args:=ds,vars:=[] }) :
  s.post enc P f false true false false W args (.bool true) W':=by
 have hW':=hW
 obtain ⟨p,q,hA,hV,rfl,_,_⟩:=hW
 rw [hvars] at hV
 obtain ⟨rfl,rfl⟩:=trodVars_none hV
 refine ⟨ds,[],p++[],[],p,[],hW',?_,?_,?_,hb.frame _,fun h =>by cases h⟩
 ·rw [hfn,hres]
  exact trodAll_mk1 (shut_bool htb true)
 ·rw [hfn]
  exact zDj hl hb hpar hA (fun x hx =>by simpa using hW'.lt x (by simpa using hx))
 ·rw [hfn,hvars]
  exact rfl
def flat (ls:List (List UInt8)):List UInt8:=ls.flatMap (· ++ [10])
theorem zCg:flat []=[]:=rfl
theorem zAZ (s:List UInt8) (ls:List (List UInt8)):flat (s :: ls)=s++10 :: flat ls:=by
 unfold flat
 rw [List.flatMap_cons,List.append_assoc]
 rfl
theorem zCu (s:List UInt8) (ls:List (List UInt8)):flat (s :: ls)≠[]:=by rw [zAZ];simp
theorem zEm:∀ (s r:List UInt8),(10:UInt8) ∉ s→Lib.index (s++10 :: r) [10]=(s.length:Int)
 | [],r,_ =>by
  rw [List.nil_append,Lib.index,if_pos (by simp)]
  rfl
 | b :: s,r,h =>by
  have hb:(10:UInt8)≠b:=fun e =>h (by rw [e];exact List.mem_cons_self ..)
  have ih:=zEm s r (fun hm =>h (List.mem_cons_of_mem _ hm))
  rw [List.cons_append,Lib.index,if_neg (by simpa using hb),ih,if_neg (by simp),List.length_cons]
  omega
theorem zDN (s r:List UInt8) (h:(10:UInt8) ∉ s):Lib.cut (s++10 :: r) [10]=(s,r,true):=by
 unfold Lib.cut
 rw [zEm s r h,if_pos (by omega),Int.toNat_natCast,List.take_left,show s.length+[(10:UInt8)].length=s.length+1 from rfl,← List.drop_drop,List.drop_left]
 try rfl
theorem zEE:∀ T:List UInt8,(T=[]∨T.getLast? = some 10)→∃ ls,T=flat ls∧∀ s ∈ ls,(10:UInt8) ∉ s
 | [],_ =>⟨[],rfl,by simp⟩
 | b :: T,h =>by
  have h2:(b :: T).getLast? = some 10:=by rcases h with h | h;cases h;exact h
  cases T with
  | nil =>
   obtain rfl:b=10:=by simpa using h2
   exact ⟨[[]],rfl,by simp⟩
  | cons c T =>
   obtain ⟨ls,e,hn⟩:=zEE (c :: T) (.inr (by rw [List.getLast?_cons_cons] at h2;exact h2))
   by_cases hb:b=10
   ·subst hb
    exact ⟨[] :: ls,by rw [zAZ,← e];rfl,fun s hs =>by
     rcases List.mem_cons.1 hs with rfl | hs
     ·simp
     ·exact hn s hs⟩
   ·cases ls with
    | nil =>rw [zCg] at e;cases e
    | cons s ls =>
     refine ⟨(b :: s) :: ls,by rw [e,zAZ,zAZ];rfl,fun u hu =>?_⟩
     rcases List.mem_cons.1 hu with rfl | hu
     ·intro hm
      rcases List.mem_cons.1 hm with hm | hm
      ·exact hb hm.symm
      ·exact hn s (List.mem_cons_self ..) hm
     ·exact hn u (List.mem_cons_of_mem _ hu)
theorem zCO:∀ {ls ms:List (List UInt8)},(∀ s ∈ ls,(10:UInt8) ∉ s)→(∀ s ∈ ms,(10:UInt8) ∉ s)→flat ls=flat ms→ls=ms
 | [],[],_,_,_ =>rfl
 | [],s :: ms,_,_,h =>absurd h.symm (zCu s ms)
 | s :: ls,[],_,_,h =>absurd h (zCu s ls)
 | s :: ls,t :: ms,h1,h2,h =>by
  rw [zAZ,zAZ] at h
  obtain ⟨rfl,h3⟩:=zFL (h1 s (List.mem_cons_self ..)) (h2 t (List.mem_cons_self ..)) h
  rw [zCO (fun u hu =>h1 u (List.mem_cons_of_mem _ hu)) (fun u hu =>h2 u (List.mem_cons_of_mem _ hu)) h3]
inductive Trs:List (List UInt8)→List Rw→Prop
 | none:Trs [] []
 | more {s ls x xs}:zAy s x.r x.l→Trs ls xs→Trs (s :: ls) (x :: xs)
theorem Trs.snoc {ls:List (List UInt8)} {xs:List Rw} {s:List UInt8} {x:Rw} (h:Trs ls xs) (hx:zAy s x.r x.l):Trs (ls++[s]) (xs++[x]):=by
 induction h with
 | none =>exact .more hx .none
 | more h1 _ ih =>exact .more h1 ih
theorem Trs.len {ls:List (List UInt8)} {xs:List Rw} (h:Trs ls xs):xs.length=ls.length:=by
 induction h with
 | none =>rfl
 | more _ _ ih =>simp [ih]
theorem Trs.one {ls:List (List UInt8)} {xs ys:List Rw} (h:Trs ls xs) (g:Trs ls ys):xs.map Rw.say=ys.map Rw.say:=by
 induction h generalizing ys with
 | none =>cases g;rfl
 | more h1 _ ih =>
  cases g with
  | more g1 g2 =>
   have h2:=h1.read
   rw [g1.read] at h2
   have h3:=Option.some.inj h2
   rw [List.map_cons,List.map_cons,ih g2]
   congr 1
   exact Prod.ext (congrArg Prod.fst h3).symm (congrArg Prod.snd h3).symm
theorem Trs.at {ls:List (List UInt8)} {xs:List Rw} (h:Trs ls xs) {i:Nat} {s:List UInt8} (hs:ls[i]? = some s):∃ x,xs[i]? = some x∧zAy s x.r x.l:=by
 induction h generalizing i with
 | none =>cases hs
 | more h1 _ ih =>
  cases i with
  | zero =>
   obtain rfl:_=s:=by simpa using hs
   exact ⟨_,rfl,h1⟩
  | succ i =>exact ih (by simpa using hs)
theorem Trs.lns {ls:List (List UInt8)} {xs:List Rw} (h:Trs ls xs):lnsT xs=flat ls∧∀ x ∈ xs,zBA x∧lnOk x:=by
 induction h with
 | none =>exact ⟨rfl,by simp⟩
 | more h1 _ ih =>
  obtain ⟨i1,i2⟩:=ih
  rename_i s ls x xs _
  obtain ⟨g1,g2,g3⟩:=h1.good x.A x.n x.c
  refine ⟨?_,fun y hy =>?_⟩
  ·rw [zAZ,← i1]
   unfold lnsT
   rw [List.flatMap_cons,show lnT x=s from g3,List.append_assoc]
   rfl
  ·rcases List.mem_cons.1 hy with rfl | hy
   ·exact ⟨g1,g2⟩
   ·exact i2 y hy
theorem zEA:∀ xs:List Rw,(∀ x ∈ xs,zBA x∧lnOk x)→Trs (xs.map lnT) xs
 | [],_ =>.none
 | x :: xs,h =>by
  obtain ⟨⟨h1,h2,_⟩,h4,h5⟩:=h x (List.mem_cons_self ..)
  exact .more ⟨h1,h2,h4,h5,rfl⟩ (zEA xs fun y hy =>h y (List.mem_cons_of_mem _ hy))
end Go.Proofs.YtgoklhoaedceaaaGreatDoor
