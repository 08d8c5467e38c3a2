/- Texts of one proof. -/
import Derived.Test.YtoclafdidjpndaaGreatDoorMx37
import Derived.Test.YtoclafdidjpndaaGreatDoorMx39
set_option maxRecDepth 100000
set_option maxHeartbeats 8000000
namespace Go.Proofs.YtoclafdidjpndaaGreatDoor
open Go.RowKit
theorem zEo:∀ (qs:List (List UInt8)) (p:List UInt8),qs[zAh qs]? = some p→zBh p=false
 | [],p,h =>by simp at h
 | q :: qs,p,h =>by
  unfold zAh at h
  by_cases hq:zBh q=true
  ·rw [if_pos hq] at h
   exact zEo qs p (by simpa using h)
  ·rw [if_neg hq] at h
   have:q=p:=by simpa using h
   rw [← this];simpa using hq
theorem zQB {p:List UInt8} (h:zBh p=false):p=[] ∨ ∃ b t,p=b :: t∧b.toNat≠0:=by
 cases p with
 | nil =>exact .inl rfl
 | cons b t =>
  refine .inr ⟨b,t,rfl,fun hb =>?_⟩
  have:b=0:=UInt8.toNat_inj.mp hb
  rw [this] at h;simp [zBh] at h
theorem zGU {W:World} {b g:Nat} (h:g≠b) (u0 u1 u2 u3 u4 u5 u6:Value):(((((((W.setCell ⟨b,0,none⟩ u0).setCell ⟨b,1,none⟩ u1).setCell ⟨b,2,none⟩ u2).setCell ⟨b,3,none⟩ u3).setCell ⟨b,4,none⟩ u4).setCell ⟨b,5,none⟩ u5).setCell ⟨b,6,none⟩ u6).heap[g]? = W.heap[g]?:=by
 simp [World.setCell,Array.getElem?_modify,Ne.symm h]
theorem zBL {w:World} {b:Nat} {o:Obj} (h:w.heap[b]? = some o):b<w.heap.size:=(Array.getElem?_eq_some_iff.1 h).1
def zNo (w:World) (B0:Nat) (T:Option Addr) (tn tk:Nat) (nx:Nat) (kd:Int) (tg:ByteArray) (ru:Int) (l:List Dp) (ou ti:Int) (ta:ByteArray) (tl9:List (List UInt8)) (P:Prop) (e:Ending) (w':World):Prop :=
 (P→∃ A c v2,e=.returned (.tuple #[.agg #[.int .i64 kd,.string tg,.int .u64 ru,.slice A l.length c,.int .u64 ou,.int .u64 ti,.string ta],.int .i64 (nx:Int),v2,.int .i64 0])∧w'.ownsRow w.heap.size 73 3 (.slice A l.length c) l.length (dps l)∧Own w' B0 v2 tl9) ∧
 (¬ P→e=.returned (.tuple #[.agg #[.int .i64 0,.string ⟨#[]⟩,.int .u64 0,.slice none 0 0,.int .u64 0,.int .u64 0,.string ⟨#[]⟩],.int .i64 0,.slice T tn tk,.int .i64 3]))
theorem zKO (ver:Int) (hv:1≤ver∧ver≤3) (tl ps:List (List UInt8)) (T A:Option Addr) (tk n c a:Nat) (B0:Nat) (ha:a≤n) (hn:n≤1000) (hps:∀ p ∈ ps,p.length≤3000) (htl:tl.length≤1000) (w:World) (hB0:B0≤w.heap.size) (hT:Own w B0 (.slice T tl.length tk) tl) (hr:zAE w w.heap.size 1 A n (ps.map tsv)) (j:Nat) (htx:zAh (ps.drop a)=j) (p:List UInt8) (hp:ps[a+j]? = some p) (kd ru ou ti:Int) (tg ta:ByteArray) (l:List Dp) (ok:Bool) (e9:Int) (pl tl9:List (List UInt8)) (hpl9:pl.length≤100000) (hok:p=[]→ok=false)
  (HL:Hid (∀ (v:Value) (W:World),B0≤W.heap.size→Own W B0 v (tblA tl (ps.drop a) j)→Calls Tryz.prog 47 #[.int .i64 ver,v,.string (tx p)] W fun e w' =>zBr W kd tg ru l ou ti ta (ok=true) e w'))
  (HP:Hid (∀ (A:Option Addr) (c:Nat) (W:World),B0≤W.heap.size→Own W B0 (.slice T tl.length tk) tl→zAE W W.heap.size 3 A l.length (dps l)→Calls Tryz.prog 17 #[.int .i64 ver,.slice T tl.length tk,.agg #[.int .i64 kd,.string tg,.int .u64 ru,.slice A l.length c,.int .u64 ou,.int .u64 ti,.string ta]] W fun e w' =>∃ v1 v2,e=.returned (.tuple #[v1,v2,.int .i64 e9])∧Own w' W.heap.size v1 pl∧Own w' B0 v2 tl9∧Below W.heap.size W w')) :
  Calls Tryz.prog 25 #[.int .i64 ver,.slice T tl.length tk,.slice A n c,.int .i64 (a:Int)] w fun e w' =>zNo w B0 T tl.length tk (a+j+1) kd tg ru l ou ti ta tl9 (ok=true∧e9=0∧pl=(ps.drop a).take (j+1)) e w'∧Below w.heap.size w w':=by
 have hz1:(w.alloc (.cells #[.int .i64 0,.string ⟨#[]⟩,.int .u64 0,.slice none 0 0,.int .u64 0,.int .u64 0,.string ⟨#[]⟩] 45)).heap.size=w.heap.size+1:=by simp
 have hb1:=(Below.refl w.heap.size w).alloc (Nat.le_refl _) (.cells #[.int .i64 0,.string ⟨#[]⟩,.int .u64 0,.slice none 0 0,.int .u64 0,.int .u64 0,.string ⟨#[]⟩] 45)
 have hb2:=hb1.alloc hb1.size (.cells #[.int .i64 0,.string ⟨#[]⟩,.int .u64 0,.slice none 0 0,.int .u64 0,.int .u64 0,.string ⟨#[]⟩] 45)
 have x8:=(Below.heap_alloc (w.alloc (.cells #[.int .i64 0,.string ⟨#[]⟩,.int .u64 0,.slice none 0 0,.int .u64 0,.int .u64 0,.string ⟨#[]⟩] 45)) (.cells #[.int .i64 0,.string ⟨#[]⟩,.int .u64 0,.slice none 0 0,.int .u64 0,.int .u64 0,.string ⟨#[]⟩] 45) w.heap.size (by omega)).trans (zAG w (.cells #[.int .i64 0,.string ⟨#[]⟩,.int .u64 0,.slice none 0 0,.int .u64 0,.int .u64 0,.string ⟨#[]⟩] 45))
 have x12:=zAG (w.alloc (.cells #[.int .i64 0,.string ⟨#[]⟩,.int .u64 0,.slice none 0 0,.int .u64 0,.int .u64 0,.string ⟨#[]⟩] 45)) (.cells #[.int .i64 0,.string ⟨#[]⟩,.int .u64 0,.slice none 0 0,.int .u64 0,.int .u64 0,.string ⟨#[]⟩] 45)
 rw [hz1] at x12
 have HZ2:Hid (((w.alloc (.cells #[.int .i64 0,.string ⟨#[]⟩,.int .u64 0,.slice none 0 0,.int .u64 0,.int .u64 0,.string ⟨#[]⟩] 45)).alloc (.cells #[.int .i64 0,.string ⟨#[]⟩,.int .u64 0,.slice none 0 0,.int .u64 0,.int .u64 0,.string ⟨#[]⟩] 45)).heap.size=w.heap.size+2):=(by show _=_;simp)
 have HX8:=yh x8
 have HX12:=yh x12
 have HB2:=yh hb2
 clear x8 x12 hb1 hb2 hz1
 have hlen:ps.length=n:=by have:=hr.1;simpa using this
 have HLN0:=yh hlen
 have HR:=yh hr
 have HT:=yh hT
 have HTX:=yh htx
 have hjn:a+j<n:=by have:=(List.getElem?_eq_some_iff.mp hp).1;omega
 have hpt0:=zQB (zEo (ps.drop a) p (by rw [htx,List.getElem?_drop];exact hp))
 have hpl:p.length≤3000:=hps p (List.mem_of_getElem? hp)
 have HPT:=yh hpt0
 have HPL:=yh hpl
 have HPP:=yh hp
 have HPL9:=yh hpl9
 have HOK:=yh hok
 clear hpt0 hpl hp hpl9 hok
 have HPS:=yh hps
 have d1:decide (ver<1)=false:=decide_eq_false (by omega)
 have d2:decide (ver > 3)=false:=decide_eq_false (by omega)
 have d3:decide ((a:Int)<0)=false:=decide_eq_false (by omega)
 have d4:decide ((a:Int) > (n:Int))=false:=decide_eq_false (by omega)
 have d5:decide (n<a)=false:=decide_eq_false (by omega)
 have HB2L:Hid (Below w.heap.size w ((w.alloc (.cells #[.int .i64 0,.string ⟨#[]⟩,.int .u64 0,.slice none 0 0,.int .u64 0,.int .u64 0,.string ⟨#[]⟩] 45)).alloc (.cells #[.int .i64 0,.string ⟨#[]⟩,.int .u64 0,.slice none 0 0,.int .u64 0,.int .u64 0,.string ⟨#[]⟩] 45))):=HB2.out
 obtain ⟨qs,hqs⟩:∃ qs,qs=ps.drop a:=⟨_,rfl⟩
 have HQS:=yh hqs
 clear hr hT htx hps hlen hqs
 go_enter Tryz.func25,Tryz.ntmps25
 go_wp2
 go_loopw [13,14] (fun v13 v14 wr =>∃ (m:Nat) (v:Value),a≤m∧m≤a+j∧v13=.int .i64 (m:Int)∧v=v14∧Own wr B0 v (tblA tl qs (m - a))∧Below ((w.alloc (.cells #[.int .i64 0,.string ⟨#[]⟩,.int .u64 0,.slice none 0 0,.int .u64 0,.int .u64 0,.string ⟨#[]⟩] 45)).alloc (.cells #[.int .i64 0,.string ⟨#[]⟩,.int .u64 0,.slice none 0 0,.int .u64 0,.int .u64 0,.string ⟨#[]⟩] 45)).heap.size ((w.alloc (.cells #[.int .i64 0,.string ⟨#[]⟩,.int .u64 0,.slice none 0 0,.int .u64 0,.int .u64 0,.string ⟨#[]⟩] 45)).alloc (.cells #[.int .i64 0,.string ⟨#[]⟩,.int .u64 0,.slice none 0 0,.int .u64 0,.int .u64 0,.string ⟨#[]⟩] 45)) wr) (fun v13 _ _ =>n - (intOf v13).toNat)
 case atStart =>exact ⟨a,_,Nat.le_refl _,by omega,rfl,rfl,by rw [Nat.sub_self];exact zAF HT.out HB2L.out,Below.refl _ _⟩
 case round =>
  obtain ⟨m,v,ham,hmn,rfl,rfl,hown,hb⟩:=hrel
  have HO:=yh hown
  have HB:=yh hb
  by_cases hlt:m<a+j
  ·obtain ⟨t,ht⟩:=zED qs (m - a) (by rw [HQS.out,HTX.out];omega)
   have hpt:ps[m]? = some (0 :: t):=by rw [HQS.out,List.getElem?_drop,show a+(m - a)=m by omega] at ht;exact ht
   have htl3:t.length≤3000:=by have:=HPS.out _ (List.mem_of_getElem? hpt);simp at this;omega
   obtain ⟨ad,u,rfl,_,hu,hcell⟩:=((HR.out.below HB2L.out).below (hb.mono HB2L.out.size)).at_ (k:=m) (by omega)
   obtain rfl:u=.string (tx (0 :: t)):=by rw [List.getElem?_map,hpt] at hu;exact (Option.some.inj hu).symm
   have hx1:(tx (0 :: t)).toList.isEmpty=false:=by simp [tx]
   have hx2:((tx (0 :: t)).toList == [])=false:=by simp [tx]
   have hidx:=zIc 0 t
   have hcut:=zKt 0 t (by omega)
   have hm0:(0:Int)≤(m:Int):=by omega
   have hm1:(m:Int)<(n:Int):=by omega
   have hmn2:m<n:=by omega
   have HNX:Hid (tblA tl qs (m+1 - a)=tput (tblA tl qs (m - a)) t):=(by show _=_;rw [show m+1 - a=(m - a)+1 by omega];exact zHg ht)
   have HTBL:Hid ((tblA tl qs (m - a)).length≤1000000):=(by have:=zEZ tl qs (m - a);show _≤_;omega)
   have HM:Hid (m<a+j∧a≤m∧m<n):=⟨hlt,ham,by omega⟩
   have HPUT:=yh (fun (W:World) (hW:Below wr.heap.size wr W) =>zCU B0 v (tblA tl qs (m - a)) t HTBL.out W (Nat.le_trans hB0 (Nat.le_trans HB2L.out.size (Nat.le_trans hb.size hW.size))) (zAF hown hW))
   obtain ⟨sx,hsx⟩:∃ sx,sx=tx (0 :: t):=⟨_,rfl⟩
   rw [← hsx] at hcell hx1 hx2 hidx hcut
   clear ht hpt hu hown hb hlt ham hmn hsx
   go_wp2_with fail
   refine (HPUT.out _ (Below.refl _ _)).mono ?_
   rintro e x1 ⟨v',rfl,ho1,_,hb1⟩
   have HO1:=yh ho1
   have HB1:=yh (HB.out.trans (hb1.mono HB.out.size))
   clear ho1 hb1
   go_wp2
   exact ⟨⟨m+1,v',by have:=HM.out;omega,by have:=HM.out;omega,rfl,rfl,by rw [HNX.out];exact HO1.out,HB1.out⟩,by show n - (m+1)<n - m;have:=HM.out;omega⟩
  ·obtain rfl:m=a+j:=by omega
   obtain ⟨ad,u,rfl,_,hu,hcell⟩:=((HR.out.below HB2L.out).below (hb.mono HB2L.out.size)).at_ (k:=a+j) hjn
   obtain rfl:u=.string (tx p):=by rw [List.getElem?_map,HPP.out] at hu;exact (Option.some.inj hu).symm
   have x8:=(hb.block w.heap.size (by rw [HZ2.out];omega)).trans HX8.out
   have x12:=(hb.block (w.heap.size+1) (by rw [HZ2.out];omega)).trans HX12.out
   have HX8W:=yh x8
   have HX12W:=yh x12
   have HSZ:Hid (w.heap.size+1<wr.heap.size):=zBL x12
   have HBW:=yh (HB2L.out.trans (hb.mono HB2L.out.size))
   have HB0R:Hid (B0≤wr.heap.size):=Nat.le_trans hB0 HBW.out.size
   rw [show a+j - a=j by omega] at hown
   have HOWN:Hid (Own wr B0 v (tblA tl (ps.drop a) j)):=by have h1:=HQS.out;rw [← h1];exact hown
   have hl1:(((a+j:Nat):Int)<(n:Int)):=by omega
   have hl2:decide (a+j=n)=false:=decide_eq_false (by omega)
   have hl3:¬ (a+j=n):=by omega
   clear hu
   rcases HPT.out with rfl | ⟨b0,t0,rfl,hb0⟩
   ·have hx1:(tx ([]:List UInt8)).toList.isEmpty=true:=by simp [tx]
    have hx2:((tx ([]:List UInt8)).toList == [])=true:=by simp [tx]
    obtain ⟨sx,hsx⟩:∃ sx,sx=tx ([]:List UInt8):=⟨_,rfl⟩
    rw [← hsx] at hcell hx1 hx2 HL
    clear x8 x12 hown hb hsx
    have HOKF:Hid (ok=false):=HOK.out rfl
    go_wp2_with fail
    refine (HL.out _ _ HB0R.out HOWN.out).mono ?_
    rintro e x1 ⟨A1,c1,q1,rfl,hq1,hA1,hrow1,hb1⟩
    have x8:=(hb1.block w.heap.size (by have:=HBW.out.size;have:=HSZ.out;omega)).trans HX8W.out
    have x12:=(hb1.block (w.heap.size+1) (by have:=HBW.out.size;have:=HSZ.out;omega)).trans HX12W.out
    have hrow2:=zAE.of_own hrow1
    have HQ1:=yh hq1
    have HROW:=yh hrow1
    have hbA:=HBW.out.trans (hb1.mono HBW.out.size)
    have hz15:(x1.alloc (.cells #[.int .i64 kd,.string tg,.int .u64 ru,.slice A1 l.length c1,.int .u64 ou,.int .u64 ti,.string ta] 45)).heap.size=x1.heap.size+1:=by simp
    have hbB:=hbA.alloc hbA.size (.cells #[.int .i64 kd,.string tg,.int .u64 ru,.slice A1 l.length c1,.int .u64 ou,.int .u64 ti,.string ta] 45)
    have z15:=zAG x1 (.cells #[.int .i64 kd,.string tg,.int .u64 ru,.slice A1 l.length c1,.int .u64 ou,.int .u64 ti,.string ta] 45)
    have HX8A:Hid ((x1.alloc (.cells #[.int .i64 kd,.string tg,.int .u64 ru,.slice A1 l.length c1,.int .u64 ou,.int .u64 ti,.string ta] 45)).heap[w.heap.size]? = _):=(Below.heap_alloc x1 (.cells #[.int .i64 kd,.string tg,.int .u64 ru,.slice A1 l.length c1,.int .u64 ou,.int .u64 ti,.string ta] 45) w.heap.size (by have:=zBL x8;omega)).trans x8
    have HX12A:Hid ((x1.alloc (.cells #[.int .i64 kd,.string tg,.int .u64 ru,.slice A1 l.length c1,.int .u64 ou,.int .u64 ti,.string ta] 45)).heap[w.heap.size+1]? = _):=(Below.heap_alloc x1 (.cells #[.int .i64 kd,.string tg,.int .u64 ru,.slice A1 l.length c1,.int .u64 ou,.int .u64 ti,.string ta] 45) (w.heap.size+1) (by have:=zBL x12;omega)).trans x12
    have HX15A:Hid ((x1.alloc (.cells #[.int .i64 kd,.string tg,.int .u64 ru,.slice A1 l.length c1,.int .u64 ou,.int .u64 ti,.string ta] 45)).heap[x1.heap.size]? = _):=z15
    have HBB:Hid (Below w.heap.size w (x1.alloc (.cells #[.int .i64 kd,.string tg,.int .u64 ru,.slice A1 l.length c1,.int .u64 ou,.int .u64 ti,.string ta] 45))):=hbB
    have HRDS:Hid (zAE (x1.alloc (.cells #[.int .i64 kd,.string tg,.int .u64 ru,.slice A1 l.length c1,.int .u64 ou,.int .u64 ti,.string ta] 45)) (x1.alloc (.cells #[.int .i64 kd,.string tg,.int .u64 ru,.slice A1 l.length c1,.int .u64 ou,.int .u64 ti,.string ta] 45)).heap.size 3 A1 l.length (dps l)):=by
     have h1:=(Below.refl x1.heap.size x1).alloc (Nat.le_refl _) (.cells #[.int .i64 kd,.string tg,.int .u64 ru,.slice A1 l.length c1,.int .u64 ou,.int .u64 ti,.string ta] 45)
     exact ((zAE.of_own hrow1).below h1).more h1.size
    have HLT:Hid (w.heap.size+1<x1.heap.size):=zBL x12
    have p0:=zAA (i:=0) z15 rfl
    have p1:=zAA (i:=1) z15 rfl
    have p2:=zAA (i:=2) z15 rfl
    have p3:=zAA (i:=3) z15 rfl
    have p4:=zAA (i:=4) z15 rfl
    have p5:=zAA (i:=5) z15 rfl
    have p6:=zAA (i:=6) z15 rfl
    have HB1:=yh hb1
    have HOT:Hid (Own (x1.alloc (.cells #[.int .i64 kd,.string tg,.int .u64 ru,.slice A1 l.length c1,.int .u64 ou,.int .u64 ti,.string ta] 45)) B0 (.slice T tl.length tk) tl):=zAF HT.out hbB
    have HB0X:Hid (B0≤(x1.alloc (.cells #[.int .i64 kd,.string tg,.int .u64 ru,.slice A1 l.length c1,.int .u64 ou,.int .u64 ti,.string ta] 45)).heap.size):=Nat.le_trans hB0 hbB.size
    clear hq1 hrow1 hbA hbB z15 hz15 x8 x12 hb1 hrow2 hA1
    go_wp2_with fail
    refine (HP.out _ _ _ HB0X.out HOT.out HRDS.out).mono ?_
    rintro e x2 ⟨v1,v2,rfl,hv1,hv2,hb2⟩
    have HX8R:=yh ((hb2.block w.heap.size (zBL HX8A.out)).trans HX8A.out)
    have HX12R:=yh ((hb2.block (w.heap.size+1) (zBL HX12A.out)).trans HX12A.out)
    have HX15R:=yh ((hb2.block x1.heap.size (zBL HX15A.out)).trans HX15A.out)
    have HBA:=yh (HBB.out.trans (hb2.mono HBB.out.size))
    obtain ⟨P1,cp1,rfl,_⟩:=zAH hv1
    have HV1:=yh hv1
    have HV2:=yh hv2
    have HROW2:Hid (x2.ownsRow w.heap.size 73 3 (.slice A1 l.length c1) l.length (dps l)):=by
     have h1:=zAF HROW.out ((Below.refl x1.heap.size x1).alloc (Nat.le_refl _) (.cells #[.int .i64 kd,.string tg,.int .u64 ru,.slice A1 l.length c1,.int .u64 ou,.int .u64 ti,.string ta] 45))
     have h2:=zAF h1 hb2
     exact zAY h2 HBW.out.size
    clear hv1 hv2 hb2 p0 p1 p2 p3 p4 p5 p6
    have hq0:q1=false:=(by cases q1 with
     | false =>rfl
     | true =>have h1:=HQ1.out.1 rfl;rw [HOKF.out] at h1;cases h1)
    subst hq0
    have x8:=HX8R.out
    have x12:=HX12R.out
    have q0:=zAA (i:=0) x8 rfl
    have y0:=zAC (i:=0) x8
    have n0:=zAA (i:=0) x12 rfl
    have q1:=zAA (i:=1) x8 rfl
    have y1:=zAC (i:=1) x8
    have n1:=zAA (i:=1) x12 rfl
    have q2:=zAA (i:=2) x8 rfl
    have y2:=zAC (i:=2) x8
    have n2:=zAA (i:=2) x12 rfl
    have q3:=zAA (i:=3) x8 rfl
    have y3:=zAC (i:=3) x8
    have n3:=zAA (i:=3) x12 rfl
    have q4:=zAA (i:=4) x8 rfl
    have y4:=zAC (i:=4) x8
    have n4:=zAA (i:=4) x12 rfl
    have q5:=zAA (i:=5) x8 rfl
    have y5:=zAC (i:=5) x8
    have n5:=zAA (i:=5) x12 rfl
    have q6:=zAA (i:=6) x8 rfl
    have y6:=zAC (i:=6) x8
    have n6:=zAA (i:=6) x12 rfl
    clear x8 x12
    go_wp2
    refine bodyPost_ret (zAl rfl _ _ w.heap.size _ _ (0,0) _ rfl (zAD (zAD (zAD (zAD (zAD (zAD (zAD HX8R.out 0 (.int .i64 0)) 1 (.string ⟨#[]⟩)) 2 (.int .u64 0)) 3 (.slice none 0 0)) 4 (.int .u64 0)) 5 (.int .u64 0)) 6 (.string ⟨#[]⟩)) Tryz.underlying45 rfl (by kernel_rfl)) rfl ?_
    exact ⟨⟨fun h =>absurd h.1 (by rw [HOKF.out];decide),fun _ =>rfl⟩,(((((((HBA.out.setCell (p:=⟨w.heap.size,0,none⟩) (Nat.le_refl _) _).setCell (p:=⟨w.heap.size,1,none⟩) (Nat.le_refl _) _).setCell (p:=⟨w.heap.size,2,none⟩) (Nat.le_refl _) _).setCell (p:=⟨w.heap.size,3,none⟩) (Nat.le_refl _) _).setCell (p:=⟨w.heap.size,4,none⟩) (Nat.le_refl _) _).setCell (p:=⟨w.heap.size,5,none⟩) (Nat.le_refl _) _).setCell (p:=⟨w.heap.size,6,none⟩) (Nat.le_refl _) _)⟩
   ·have hx1:(tx (b0 :: t0)).toList.isEmpty=false:=by simp [tx]
    have hx2:((tx (b0 :: t0)).toList == [])=false:=by simp [tx]
    have hidx:=zIc b0 t0
    have hb1:((b0.toNat:Int))≠0:=by omega
    have hb2:decide ((b0.toNat:Int)=0)=false:=decide_eq_false hb1
    have hb3:((b0.toNat:Int) == 0)=false:=by simpa using hb1
    have hm0:(0:Int)≤((a+j:Nat):Int):=by omega
    obtain ⟨bn,hbn⟩:∃ bn,bn=(b0.toNat:Int):=⟨_,rfl⟩
    rw [← hbn] at hb1 hb2 hb3
    simp only [← hbn] at hidx
    obtain ⟨sx,hsx⟩:∃ sx,sx=tx (b0 :: t0):=⟨_,rfl⟩
    rw [← hsx] at hcell hx1 hx2 hidx HL
    clear x8 x12 hown hb hsx hbn hb0
    go_wp2_with fail
    refine (HL.out _ _ HB0R.out HOWN.out).mono ?_
    rintro e x1 ⟨A1,c1,q1,rfl,hq1,hA1,hrow1,hb1⟩
    have x8:=(hb1.block w.heap.size (by have:=HBW.out.size;have:=HSZ.out;omega)).trans HX8W.out
    have x12:=(hb1.block (w.heap.size+1) (by have:=HBW.out.size;have:=HSZ.out;omega)).trans HX12W.out
    have hrow2:=zAE.of_own hrow1
    have HQ1:=yh hq1
    have HROW:=yh hrow1
    have hbA:=HBW.out.trans (hb1.mono HBW.out.size)
    have hz15:(x1.alloc (.cells #[.int .i64 kd,.string tg,.int .u64 ru,.slice A1 l.length c1,.int .u64 ou,.int .u64 ti,.string ta] 45)).heap.size=x1.heap.size+1:=by simp
    have hbB:=hbA.alloc hbA.size (.cells #[.int .i64 kd,.string tg,.int .u64 ru,.slice A1 l.length c1,.int .u64 ou,.int .u64 ti,.string ta] 45)
    have z15:=zAG x1 (.cells #[.int .i64 kd,.string tg,.int .u64 ru,.slice A1 l.length c1,.int .u64 ou,.int .u64 ti,.string ta] 45)
    have HX8A:Hid ((x1.alloc (.cells #[.int .i64 kd,.string tg,.int .u64 ru,.slice A1 l.length c1,.int .u64 ou,.int .u64 ti,.string ta] 45)).heap[w.heap.size]? = _):=(Below.heap_alloc x1 (.cells #[.int .i64 kd,.string tg,.int .u64 ru,.slice A1 l.length c1,.int .u64 ou,.int .u64 ti,.string ta] 45) w.heap.size (by have:=zBL x8;omega)).trans x8
    have HX12A:Hid ((x1.alloc (.cells #[.int .i64 kd,.string tg,.int .u64 ru,.slice A1 l.length c1,.int .u64 ou,.int .u64 ti,.string ta] 45)).heap[w.heap.size+1]? = _):=(Below.heap_alloc x1 (.cells #[.int .i64 kd,.string tg,.int .u64 ru,.slice A1 l.length c1,.int .u64 ou,.int .u64 ti,.string ta] 45) (w.heap.size+1) (by have:=zBL x12;omega)).trans x12
    have HX15A:Hid ((x1.alloc (.cells #[.int .i64 kd,.string tg,.int .u64 ru,.slice A1 l.length c1,.int .u64 ou,.int .u64 ti,.string ta] 45)).heap[x1.heap.size]? = _):=z15
    have HBB:Hid (Below w.heap.size w (x1.alloc (.cells #[.int .i64 kd,.string tg,.int .u64 ru,.slice A1 l.length c1,.int .u64 ou,.int .u64 ti,.string ta] 45))):=hbB
    have HRDS:Hid (zAE (x1.alloc (.cells #[.int .i64 kd,.string tg,.int .u64 ru,.slice A1 l.length c1,.int .u64 ou,.int .u64 ti,.string ta] 45)) (x1.alloc (.cells #[.int .i64 kd,.string tg,.int .u64 ru,.slice A1 l.length c1,.int .u64 ou,.int .u64 ti,.string ta] 45)).heap.size 3 A1 l.length (dps l)):=by
     have h1:=(Below.refl x1.heap.size x1).alloc (Nat.le_refl _) (.cells #[.int .i64 kd,.string tg,.int .u64 ru,.slice A1 l.length c1,.int .u64 ou,.int .u64 ti,.string ta] 45)
     exact ((zAE.of_own hrow1).below h1).more h1.size
    have HLT:Hid (w.heap.size+1<x1.heap.size):=zBL x12
    have p0:=zAA (i:=0) z15 rfl
    have p1:=zAA (i:=1) z15 rfl
    have p2:=zAA (i:=2) z15 rfl
    have p3:=zAA (i:=3) z15 rfl
    have p4:=zAA (i:=4) z15 rfl
    have p5:=zAA (i:=5) z15 rfl
    have p6:=zAA (i:=6) z15 rfl
    have HB1:=yh hb1
    have HOT:Hid (Own (x1.alloc (.cells #[.int .i64 kd,.string tg,.int .u64 ru,.slice A1 l.length c1,.int .u64 ou,.int .u64 ti,.string ta] 45)) B0 (.slice T tl.length tk) tl):=zAF HT.out hbB
    have HB0X:Hid (B0≤(x1.alloc (.cells #[.int .i64 kd,.string tg,.int .u64 ru,.slice A1 l.length c1,.int .u64 ou,.int .u64 ti,.string ta] 45)).heap.size):=Nat.le_trans hB0 hbB.size
    clear hq1 hrow1 hbA hbB z15 hz15 x8 x12 hb1 hrow2 hA1
    go_wp2_with fail
    refine (HP.out _ _ _ HB0X.out HOT.out HRDS.out).mono ?_
    rintro e x2 ⟨v1,v2,rfl,hv1,hv2,hb2⟩
    have HX8R:=yh ((hb2.block w.heap.size (zBL HX8A.out)).trans HX8A.out)
    have HX12R:=yh ((hb2.block (w.heap.size+1) (zBL HX12A.out)).trans HX12A.out)
    have HX15R:=yh ((hb2.block x1.heap.size (zBL HX15A.out)).trans HX15A.out)
    have HBA:=yh (HBB.out.trans (hb2.mono HBB.out.size))
    obtain ⟨P1,cp1,rfl,_⟩:=zAH hv1
    have HV1:=yh hv1
    have HV2:=yh hv2
    have HROW2:Hid (x2.ownsRow w.heap.size 73 3 (.slice A1 l.length c1) l.length (dps l)):=by
     have h1:=zAF HROW.out ((Below.refl x1.heap.size x1).alloc (Nat.le_refl _) (.cells #[.int .i64 kd,.string tg,.int .u64 ru,.slice A1 l.length c1,.int .u64 ou,.int .u64 ti,.string ta] 45))
     have h2:=zAF h1 hb2
     exact zAY h2 HBW.out.size
    clear hv1 hv2 hb2 p0 p1 p2 p3 p4 p5 p6
    rcases Bool.eq_false_or_eq_true q1 with hq1 | hq1
    ·subst hq1
     by_cases hbn:e9=0
     ·subst hbn
      by_cases hln:pl.length=j+1
      ·obtain ⟨wo,hwo⟩:∃ x,x=wr:=⟨wr,rfl⟩
       subst hwo
       have HEQL:=yh hln
       have HRV:Hid (zAE x2 x2.heap.size 1 P1 (j+1) (pl.map tsv)):=(by have h1:=zAE.of_own HV1.out;rw [hln] at h1;exact h1)
       have HRP2:Hid (zAE x2 x2.heap.size 1 (some ad) n (ps.map tsv)):=((HR.out.below HBA.out).more HBA.out.size)
       rw [hln]
       have hj9:j+1≤n:=by omega
       clear hln
       go_wp2
       go_loopw [20] (fun v20 wr2 =>∃ m:Nat,m≤j+1∧v20=.int .i64 (m:Int)∧pl.take m=(ps.drop a).take m∧Below x2.heap.size x2 wr2) (fun v20 _ =>j+1 - (intOf v20).toNat)
       case atStart =>exact ⟨0,Nat.zero_le _,rfl,rfl,Below.refl _ _⟩
       case round =>
        obtain ⟨m,hmj,rfl,htk,hbz⟩:=hrel
        have HTK:=yh htk
        have HBX2:=yh hbz
        have HBZ:=yh (HBA.out.trans (hbz.mono HBA.out.size))
        have HX8Z:=yh ((hbz.block w.heap.size (zBL HX8R.out)).trans HX8R.out)
        have HX12Z:=yh ((hbz.block (w.heap.size+1) (zBL HX12R.out)).trans HX12R.out)
        have HX15Z:=yh ((hbz.block x1.heap.size (zBL HX15R.out)).trans HX15R.out)
        by_cases hlt:m<j+1
        ·obtain ⟨x,hx⟩:∃ x,pl[m]? = some x:=⟨_,List.getElem?_eq_getElem (by rw [HEQL.out];exact hlt)⟩
         obtain ⟨y,hy⟩:∃ y,ps[a+m]? = some y:=⟨_,List.getElem?_eq_getElem (by rw [HLN0.out];omega)⟩
         obtain ⟨ad1,u1,rfl,_,hu1,hcell1⟩:=(HRV.out.below hbz).at_ (k:=m) hlt
         obtain rfl:u1=.string (tx x):=by rw [List.getElem?_map,hx] at hu1;exact (Option.some.inj hu1).symm
         obtain ⟨ad2,u2,had2,_,hu2,hcell2⟩:=(HRP2.out.below hbz).at_ (k:=a+m) (by omega)
         obtain rfl:ad=ad2:=Option.some.inj had2
         obtain rfl:u2=.string (tx y):=by rw [List.getElem?_map,hy] at hu2;exact (Option.some.inj hu2).symm
         have hm0:(0:Int)≤(m:Int):=by omega
         have hm1:(m:Int)<((j+1:Nat):Int):=by omega
         have hm2:(m:Int)<(j:Int)+1:=by omega
         have ham0:(0:Int)≤(a:Int)+(m:Int):=by omega
         have ham1:(a:Int)+(m:Int)<(n:Int):=by omega
         have ham2:((a:Int)+(m:Int)).toNat=a+m:=by omega
         have HM1:Hid (m<j+1):=hlt
         have hqa:(ps.drop a)[m]? = some y:=by rw [List.getElem?_drop];exact hy
         by_cases hxy:x=y
         ·subst hxy
          have HT1:Hid (pl.take (m+1)=(ps.drop a).take (m+1)):=(by show _=_;rw [List.take_add_one,List.take_add_one,htk,hx,hqa])
          obtain ⟨sx,hsx⟩:∃ sx,sx=tx x:=⟨_,rfl⟩
          rw [← hsx] at hcell1 hcell2
          clear hx hy hu1 hu2 had2 htk hbz hqa hsx
          go_wp2
          go_region
          all_goals (try go_wp2)
          exact ⟨⟨m+1,by have:=HM1.out;omega,rfl,HT1.out,HBX2.out.drew⟩,by show j+1 - (m+1)<j+1 - m;have:=HM1.out;omega⟩
         ·have HNE:Hid (¬ pl=(ps.drop a).take (j+1)):=fun e =>hxy (by
           have h1:pl[m]? = ((ps.drop a).take (j+1))[m]?:=by rw [← e]
           rw [List.getElem?_take,if_pos hlt,hx,hqa] at h1
           exact Option.some.inj h1)
          have hne:¬ (tx x=tx y):=fun e =>hxy (zPZ e)
          obtain ⟨sx,hsx⟩:∃ sx,sx=tx x:=⟨_,rfl⟩
          obtain ⟨sy,hsy⟩:∃ sy,sy=tx y:=⟨_,rfl⟩
          rw [← hsx] at hcell1 hne
          rw [← hsy] at hcell2 hne
          have hne2:(sx.toList == sy.toList)=false:=by
           rw [hsx,hsy];simp [tx];exact hxy
          have HX8D:Hid (wr.drew.heap[w.heap.size]? = _):=zDM HX8Z.out
          have HX12D:Hid (wr.drew.heap[w.heap.size+1]? = _):=zDM HX12Z.out
          have HBD:=yh HBZ.out.drew
          clear hx hy hu1 hu2 had2 htk hbz hqa hsx hsy hxy
          go_wp2
          go_region
          generalize wr.drew=wd at *
          have q0:=zAA (i:=0) HX8D.out rfl;have y0:=zAC (i:=0) HX8D.out;have n0:=zAA (i:=0) HX12D.out rfl;have q1:=zAA (i:=1) HX8D.out rfl;have y1:=zAC (i:=1) HX8D.out;have n1:=zAA (i:=1) HX12D.out rfl;have q2:=zAA (i:=2) HX8D.out rfl;have y2:=zAC (i:=2) HX8D.out;have n2:=zAA (i:=2) HX12D.out rfl;have q3:=zAA (i:=3) HX8D.out rfl;have y3:=zAC (i:=3) HX8D.out;have n3:=zAA (i:=3) HX12D.out rfl;have q4:=zAA (i:=4) HX8D.out rfl;have y4:=zAC (i:=4) HX8D.out;have n4:=zAA (i:=4) HX12D.out rfl;have q5:=zAA (i:=5) HX8D.out rfl;have y5:=zAC (i:=5) HX8D.out;have n5:=zAA (i:=5) HX12D.out rfl;have q6:=zAA (i:=6) HX8D.out rfl;have y6:=zAC (i:=6) HX8D.out;have n6:=zAA (i:=6) HX12D.out rfl
          go_wp2
          refine bodyPost_ret (zAl rfl _ _ w.heap.size _ _ (0,0) _ rfl (zAD (zAD (zAD (zAD (zAD (zAD (zAD HX8D.out 0 (.int .i64 0)) 1 (.string ⟨#[]⟩)) 2 (.int .u64 0)) 3 (.slice none 0 0)) 4 (.int .u64 0)) 5 (.int .u64 0)) 6 (.string ⟨#[]⟩)) Tryz.underlying45 rfl (by kernel_rfl)) rfl ?_
          exact ⟨⟨fun h =>absurd (by first | exact h.2.2 | exact h.2) HNE.out,fun _ =>rfl⟩,(((((((HBD.out.setCell (p:=⟨w.heap.size,0,none⟩) (Nat.le_refl _) _).setCell (p:=⟨w.heap.size,1,none⟩) (Nat.le_refl _) _).setCell (p:=⟨w.heap.size,2,none⟩) (Nat.le_refl _) _).setCell (p:=⟨w.heap.size,3,none⟩) (Nat.le_refl _) _).setCell (p:=⟨w.heap.size,4,none⟩) (Nat.le_refl _) _).setCell (p:=⟨w.heap.size,5,none⟩) (Nat.le_refl _) _).setCell (p:=⟨w.heap.size,6,none⟩) (Nat.le_refl _) _)⟩
        ·obtain rfl:m=j+1:=by omega
         have heq:pl=(ps.drop a).take (j+1):=by
          have h1:pl.take (j+1)=pl:=List.take_of_length_le (by rw [HEQL.out];exact Nat.le_refl _)
          rw [h1] at htk;exact htk
         have HEQ:=yh heq
         have hW2:=zAF HROW2.out hbz
         have hV2:=zAF HV2.out hbz
         have HD2:=yh hW2
         have HT2:=yh hV2
         have hN1:=zAQ hW2 HX8Z.out (by decide)
         have hN2:=zAQ hV2 HX8Z.out (by decide)
         have HN1:=yh hN1
         have HN2:=yh hN2
         have q0:=zAA (i:=0) HX8Z.out rfl;have y0:=zAC (i:=0) HX8Z.out;have p0:=zAA (i:=0) HX15Z.out rfl;have q1:=zAA (i:=1) HX8Z.out rfl;have y1:=zAC (i:=1) HX8Z.out;have p1:=zAA (i:=1) HX15Z.out rfl;have q2:=zAA (i:=2) HX8Z.out rfl;have y2:=zAC (i:=2) HX8Z.out;have p2:=zAA (i:=2) HX15Z.out rfl;have q3:=zAA (i:=3) HX8Z.out rfl;have y3:=zAC (i:=3) HX8Z.out;have p3:=zAA (i:=3) HX15Z.out rfl;have q4:=zAA (i:=4) HX8Z.out rfl;have y4:=zAC (i:=4) HX8Z.out;have p4:=zAA (i:=4) HX15Z.out rfl;have q5:=zAA (i:=5) HX8Z.out rfl;have y5:=zAC (i:=5) HX8Z.out;have p5:=zAA (i:=5) HX15Z.out rfl;have q6:=zAA (i:=6) HX8Z.out rfl;have y6:=zAC (i:=6) HX8Z.out;have p6:=zAA (i:=6) HX15Z.out rfl
         clear htk hbz heq hW2 hV2 hN1 hN2
         go_wp2
         refine bodyPost_ret (zAl rfl _ _ w.heap.size _ _ (0,0) _ rfl (zAD (zAD (zAD (zAD (zAD (zAD (zAD HX8Z.out 0 (.int .i64 kd)) 1 (.string tg)) 2 (.int .u64 ru)) 3 (.slice A1 l.length c1)) 4 (.int .u64 ou)) 5 (.int .u64 ti)) 6 (.string ta)) Tryz.underlying45 rfl (by kernel_rfl)) rfl ?_
         refine ⟨⟨fun _ =>⟨A1,c1,v2,rfl,zAT HD2.out (fun g hg =>zGU (fun e =>HN1.out (by rw [← e];exact hg)) _ _ _ _ _ _ _),zAT HT2.out (fun g hg =>zGU (fun e =>HN2.out (by rw [← e];exact hg)) _ _ _ _ _ _ _)⟩,fun h =>absurd (by first | exact ⟨HQ1.out.1 (by first | rfl | trivial),rfl,HEQ.out⟩ | exact ⟨HQ1.out.1 (by first | rfl | trivial),HEQ.out⟩) h⟩,(((((((HBZ.out.setCell (p:=⟨w.heap.size,0,none⟩) (Nat.le_refl _) _).setCell (p:=⟨w.heap.size,1,none⟩) (Nat.le_refl _) _).setCell (p:=⟨w.heap.size,2,none⟩) (Nat.le_refl _) _).setCell (p:=⟨w.heap.size,3,none⟩) (Nat.le_refl _) _).setCell (p:=⟨w.heap.size,4,none⟩) (Nat.le_refl _) _).setCell (p:=⟨w.heap.size,5,none⟩) (Nat.le_refl _) _).setCell (p:=⟨w.heap.size,6,none⟩) (Nat.le_refl _) _)⟩
      ·have HLN:=yh hln
       obtain ⟨np,hnp⟩:∃ np,np=pl.length:=⟨_,rfl⟩
       have HNP:=yh hnp
       have hnp9:np≤100000:=by rw [hnp];exact HPL9.out
       have hx5:¬ ((np:Int)=(a:Int)+(j:Int)+1 - (a:Int)):=by rw [hnp];omega
       have hx6:¬ (np=j+1):=by rw [hnp];exact hln
       have hx7:decide (np=j+1)=false:=decide_eq_false hx6
       rw [← hnp]
       clear hln hnp
       have x8:=HX8R.out
       have x12:=HX12R.out
       have q0:=zAA (i:=0) x8 rfl
       have y0:=zAC (i:=0) x8
       have n0:=zAA (i:=0) x12 rfl
       have q1:=zAA (i:=1) x8 rfl
       have y1:=zAC (i:=1) x8
       have n1:=zAA (i:=1) x12 rfl
       have q2:=zAA (i:=2) x8 rfl
       have y2:=zAC (i:=2) x8
       have n2:=zAA (i:=2) x12 rfl
       have q3:=zAA (i:=3) x8 rfl
       have y3:=zAC (i:=3) x8
       have n3:=zAA (i:=3) x12 rfl
       have q4:=zAA (i:=4) x8 rfl
       have y4:=zAC (i:=4) x8
       have n4:=zAA (i:=4) x12 rfl
       have q5:=zAA (i:=5) x8 rfl
       have y5:=zAC (i:=5) x8
       have n5:=zAA (i:=5) x12 rfl
       have q6:=zAA (i:=6) x8 rfl
       have y6:=zAC (i:=6) x8
       have n6:=zAA (i:=6) x12 rfl
       clear x8 x12
       go_wp2
       refine bodyPost_ret (zAl rfl _ _ w.heap.size _ _ (0,0) _ rfl (zAD (zAD (zAD (zAD (zAD (zAD (zAD HX8R.out 0 (.int .i64 0)) 1 (.string ⟨#[]⟩)) 2 (.int .u64 0)) 3 (.slice none 0 0)) 4 (.int .u64 0)) 5 (.int .u64 0)) 6 (.string ⟨#[]⟩)) Tryz.underlying45 rfl (by kernel_rfl)) rfl ?_
       exact ⟨⟨fun h =>absurd (by have h1:pl=_:=(by first | exact h.2.2 | exact h.2);have h1:=congrArg List.length h1;rw [List.length_take,List.length_drop] at h1;have h2:=HLN0.out;omega) HLN.out,fun _ =>rfl⟩,(((((((HBA.out.setCell (p:=⟨w.heap.size,0,none⟩) (Nat.le_refl _) _).setCell (p:=⟨w.heap.size,1,none⟩) (Nat.le_refl _) _).setCell (p:=⟨w.heap.size,2,none⟩) (Nat.le_refl _) _).setCell (p:=⟨w.heap.size,3,none⟩) (Nat.le_refl _) _).setCell (p:=⟨w.heap.size,4,none⟩) (Nat.le_refl _) _).setCell (p:=⟨w.heap.size,5,none⟩) (Nat.le_refl _) _).setCell (p:=⟨w.heap.size,6,none⟩) (Nat.le_refl _) _)⟩
     ·have hn1:¬ (e9=0):=hbn
      have hn2:(e9 == 0)=false:=by simpa using hbn
      have hn3:decide (e9=0)=false:=decide_eq_false hbn
      have HEN:=yh hbn
      clear hbn
      have x8:=HX8R.out
      have x12:=HX12R.out
      have q0:=zAA (i:=0) x8 rfl
      have y0:=zAC (i:=0) x8
      have n0:=zAA (i:=0) x12 rfl
      have q1:=zAA (i:=1) x8 rfl
      have y1:=zAC (i:=1) x8
      have n1:=zAA (i:=1) x12 rfl
      have q2:=zAA (i:=2) x8 rfl
      have y2:=zAC (i:=2) x8
      have n2:=zAA (i:=2) x12 rfl
      have q3:=zAA (i:=3) x8 rfl
      have y3:=zAC (i:=3) x8
      have n3:=zAA (i:=3) x12 rfl
      have q4:=zAA (i:=4) x8 rfl
      have y4:=zAC (i:=4) x8
      have n4:=zAA (i:=4) x12 rfl
      have q5:=zAA (i:=5) x8 rfl
      have y5:=zAC (i:=5) x8
      have n5:=zAA (i:=5) x12 rfl
      have q6:=zAA (i:=6) x8 rfl
      have y6:=zAC (i:=6) x8
      have n6:=zAA (i:=6) x12 rfl
      clear x8 x12
      go_wp2
      refine bodyPost_ret (zAl rfl _ _ w.heap.size _ _ (0,0) _ rfl (zAD (zAD (zAD (zAD (zAD (zAD (zAD HX8R.out 0 (.int .i64 0)) 1 (.string ⟨#[]⟩)) 2 (.int .u64 0)) 3 (.slice none 0 0)) 4 (.int .u64 0)) 5 (.int .u64 0)) 6 (.string ⟨#[]⟩)) Tryz.underlying45 rfl (by kernel_rfl)) rfl ?_
      exact ⟨⟨fun h =>absurd h.2.1 HEN.out,fun _ =>rfl⟩,(((((((HBA.out.setCell (p:=⟨w.heap.size,0,none⟩) (Nat.le_refl _) _).setCell (p:=⟨w.heap.size,1,none⟩) (Nat.le_refl _) _).setCell (p:=⟨w.heap.size,2,none⟩) (Nat.le_refl _) _).setCell (p:=⟨w.heap.size,3,none⟩) (Nat.le_refl _) _).setCell (p:=⟨w.heap.size,4,none⟩) (Nat.le_refl _) _).setCell (p:=⟨w.heap.size,5,none⟩) (Nat.le_refl _) _).setCell (p:=⟨w.heap.size,6,none⟩) (Nat.le_refl _) _)⟩
    ·subst hq1
     have HOKF:Hid (ok=false):=(by cases hokk:ok with
      | false =>exact rfl
      | true =>have h1:=HQ1.out.2 hokk;cases h1)
     have x8:=HX8R.out
     have x12:=HX12R.out
     have q0:=zAA (i:=0) x8 rfl
     have y0:=zAC (i:=0) x8
     have n0:=zAA (i:=0) x12 rfl
     have q1:=zAA (i:=1) x8 rfl
     have y1:=zAC (i:=1) x8
     have n1:=zAA (i:=1) x12 rfl
     have q2:=zAA (i:=2) x8 rfl
     have y2:=zAC (i:=2) x8
     have n2:=zAA (i:=2) x12 rfl
     have q3:=zAA (i:=3) x8 rfl
     have y3:=zAC (i:=3) x8
     have n3:=zAA (i:=3) x12 rfl
     have q4:=zAA (i:=4) x8 rfl
     have y4:=zAC (i:=4) x8
     have n4:=zAA (i:=4) x12 rfl
     have q5:=zAA (i:=5) x8 rfl
     have y5:=zAC (i:=5) x8
     have n5:=zAA (i:=5) x12 rfl
     have q6:=zAA (i:=6) x8 rfl
     have y6:=zAC (i:=6) x8
     have n6:=zAA (i:=6) x12 rfl
     clear x8 x12
     go_wp2
     refine bodyPost_ret (zAl rfl _ _ w.heap.size _ _ (0,0) _ rfl (zAD (zAD (zAD (zAD (zAD (zAD (zAD HX8R.out 0 (.int .i64 0)) 1 (.string ⟨#[]⟩)) 2 (.int .u64 0)) 3 (.slice none 0 0)) 4 (.int .u64 0)) 5 (.int .u64 0)) 6 (.string ⟨#[]⟩)) Tryz.underlying45 rfl (by kernel_rfl)) rfl ?_
     exact ⟨⟨fun h =>absurd h.1 (by rw [HOKF.out];decide),fun _ =>rfl⟩,(((((((HBA.out.setCell (p:=⟨w.heap.size,0,none⟩) (Nat.le_refl _) _).setCell (p:=⟨w.heap.size,1,none⟩) (Nat.le_refl _) _).setCell (p:=⟨w.heap.size,2,none⟩) (Nat.le_refl _) _).setCell (p:=⟨w.heap.size,3,none⟩) (Nat.le_refl _) _).setCell (p:=⟨w.heap.size,4,none⟩) (Nat.le_refl _) _).setCell (p:=⟨w.heap.size,5,none⟩) (Nat.le_refl _) _).setCell (p:=⟨w.heap.size,6,none⟩) (Nat.le_refl _) _)⟩
end Go.Proofs.YtoclafdidjpndaaGreatDoor
