/- Texts of one proof. -/
import Derived.Test.YtoclafdidjpndaaGreatDoorMx27
import Derived.Test.YtoclafdidjpndaaGreatDoorMx28
import Derived.Test.YtoclafdidjpndaaGreatDoorMx29
import Derived.Test.YtoclafdidjpndaaGreatDoorMx30
import Derived.Test.YtoclafdidjpndaaGreatDoorMx31
set_option maxRecDepth 100000
set_option maxHeartbeats 8000000
namespace Go.Proofs.YtoclafdidjpndaaGreatDoor
open Go.RowKit
def zDb (ver:Int):Int:=if 1≤ver∧ver≤3 then 1 else 11
theorem zJn (bt:Nat) (ver:Int) (r:Rc) (A:Option Addr) (n c:Nat) (l:List Dp) (hm:¬ MayP ver r l) (hn:n≤1000) (hfit:Fits r l) (w:World) (hr:zAE w w.heap.size 3 A n (dps l)) :
  Calls Tryz.prog 29 #[.int .i64 ver,.pointer (some ⟨bt,0,none⟩),.agg #[.int .i64 r.kind,.string (tx r.target),.int .u64 r.rule,.slice A n c,.int .u64 r.out,.int .u64 r.time,.string (tx r.tag)]] w fun e w' =>e=.returned (.tuple #[.slice none 0 0,.int .i64 (zDb ver)])∧Below w.heap.size w w':=by
 unfold zDb
 by_cases hv:1≤ver∧ver≤3
 ·rw [if_pos hv]
  refine zOK ver hv bt n c r A w (yh fun W hb =>?_)
  refine (zJd ver r A n c l hn hfit W ((hr.below hb).more hb.size)).mono fun e w' ⟨⟨q,h1,h2⟩,h3⟩ =>⟨?_,h3⟩
  cases q with
  | false =>exact h2
  | true =>exact absurd (h1.1 rfl) hm
 ·rw [if_neg hv]
  exact zOA ver hv (some ⟨bt,0,none⟩) n c r A w
theorem zLH (ver:Int) (k:Int) (t g:List UInt8) (u o m:Int) (A:Option Addr) (n c:Nat) (l:List Dp) (hm:¬ MayP ver ⟨k,t,u,o,m,g⟩ l) (hn:n≤100000) (hfit:Fits ⟨k,t,u,o,m,g⟩ l) (L:Option Addr) (nT cT:Nat) (w:World) (hr:zAE w w.heap.size 3 A n (dps l)) :
  Calls Tryz.prog 17 #[.int .i64 ver,.slice L nT cT,.agg #[.int .i64 k,.string (tx t),.int .u64 u,.slice A n c,.int .u64 o,.int .u64 m,.string (tx g)]] w fun e w' =>∃ v1,e=.returned (.tuple #[v1,.slice L nT cT,.int .i64 (zDb ver)])∧Own w' w.heap.size v1 []∧Below w.heap.size w w':=by
 have hb0:=(Below.refl w.heap.size w).alloc (Nat.le_refl _) (.cells #[.int .i64 k,.string (tx t),.int .u64 u,.slice A n c,.int .u64 o,.int .u64 m,.string (tx g)] 45)
 have hb1:=hb0.alloc (by simp) (.cells #[] 9)
 have ho:=zAY (zBF (w.alloc (.cells #[.int .i64 k,.string (tx t),.int .u64 u,.slice A n c,.int .u64 o,.int .u64 m,.string (tx g)] 45)) 9) (base':=w.heap.size) (by simp)
 have hz:(w.alloc (.cells #[.int .i64 k,.string (tx t),.int .u64 u,.slice A n c,.int .u64 o,.int .u64 m,.string (tx g)] 45)).heap.size=w.heap.size+1:=by simp
 rw [hz] at ho
 have hbx:=(Below.heap_alloc (w.alloc (.cells #[.int .i64 k,.string (tx t),.int .u64 u,.slice A n c,.int .u64 o,.int .u64 m,.string (tx g)] 45)) (.cells #[] 9) w.heap.size (by simp)).trans (zAG w (.cells #[.int .i64 k,.string (tx t),.int .u64 u,.slice A n c,.int .u64 o,.int .u64 m,.string (tx g)] 45))
 have q0:=zAA (i:=0) hbx rfl
 have q1:=zAA (i:=1) hbx rfl
 have q2:=zAA (i:=2) hbx rfl
 have q3:=zAA (i:=3) hbx rfl
 have q4:=zAA (i:=4) hbx rfl
 have q5:=zAA (i:=5) hbx rfl
 have q6:=zAA (i:=6) hbx rfl
 have HB1:=yh hb1
 have HO:=yh ho
 have HM:=yh hm
 have HR:=yh (fun W hb =>zHP ver ⟨k,t,u,o,m,g⟩ A n c l hn hfit W ((hr.below hb).more hb.size))
 unfold rcv rsv at HR
 clear hb0 hb1 ho hz hbx hm hr hfit
 unfold zDb
 by_cases hv:1≤ver∧ver≤3
 ·rw [if_pos hv]
  obtain ⟨hv1,hv3⟩:=hv
  have d1:decide (ver<1)=false:=decide_eq_false (by omega)
  have d2:decide (3<ver)=false:=decide_eq_false (by omega)
  go_enter Tryz.func17,Tryz.ntmps17
  go_wp2_with fail
  refine (HR.out _ HB1.out).mono ?_
  rintro e w4 ⟨he,hb⟩
  obtain rfl:=he.no HM.out
  have HB4:=yh (HB1.out.trans (hb.mono HB1.out.size))
  have HO4:Hid (Own w4 w.heap.size (.slice (some ⟨w.heap.size+1,0,none⟩) 0 0) []):=zAF HO.out hb
  clear he hb
  go_wp2
  go_ret3
  exact ⟨_,rfl,HO4.out,HB4.out⟩
 ·rw [if_neg hv]
  have HO4:Hid (Own ((w.alloc (.cells #[.int .i64 k,.string (tx t),.int .u64 u,.slice A n c,.int .u64 o,.int .u64 m,.string (tx g)] 45)).alloc (.cells #[] 9)) w.heap.size (.slice (some ⟨w.heap.size+1,0,none⟩) 0 0) []):=HO.out
  by_cases hv1:ver<1
  ·have d1:decide (ver<1)=true:=decide_eq_true hv1
   clear hv
   go_enter Tryz.func17,Tryz.ntmps17
   go_wp2
   go_ret3
   exact ⟨_,rfl,HO4.out,HB1.out⟩
  ·have hv3:3<ver:=by omega
   have d1:decide (ver<1)=false:=decide_eq_false (by omega)
   have d2:decide (3<ver)=true:=decide_eq_true hv3
   clear hv
   go_enter Tryz.func17,Tryz.ntmps17
   go_wp2
   go_ret3
   exact ⟨_,rfl,HO4.out,HB1.out⟩
theorem zLy (ver:Int) (tl:List (List UInt8)) (r:Rc) (A:Option Addr) (n c:Nat) (l:List Dp) (hm:MayP ver r l) (hnu:Nums r l) (hfit:Fits r l) (tv:Value) (htl:tl.length≤100000) (w:World) (B0:Nat) (hB0:B0≤w.heap.size) (hT:Own w B0 tv tl) (hr:zAE w w.heap.size 3 A n (dps l)) :
  Calls Tryz.prog 17 #[.int .i64 ver,tv,.agg #[.int .i64 r.kind,.string (tx r.target),.int .u64 r.rule,.slice A n c,.int .u64 r.out,.int .u64 r.time,.string (tx r.tag)]] w fun e w' =>∃ v1 v2,e=.returned (.tuple #[v1,v2,.int .i64 0])∧Own w' w.heap.size v1 (payL ver tl r l)∧Own w' B0 v2 (tabT ver tl r l)∧Below w.heap.size w w':=by
 obtain ⟨k,t,u,o,m,g⟩:=r
 have hv:ver=1∨ver=2∨ver=3:=by have:=hm.1;have:=hm.2.1;omega
 have hk:k=1∨k=2:=hm.2.2.2.imp (fun h =>h.1) (fun h =>h.1)
 rcases hv with rfl | rfl | rfl <;> rcases hk with rfl | rfl
 ·exact rp11 tl t g u o m A n c l hm hnu hfit tv htl w B0 hT hr
 ·exact rp12 tl t g u o m A n c l hm hnu hfit tv htl w B0 hT hr
 ·exact rp21 tl t g u o m A n c l hm hnu hfit tv htl w B0 hB0 hT hr
 ·exact rp22 tl t g u o m A n c l hm hnu hfit tv htl w B0 hB0 hT hr
 ·by_cases hg:g=[]
  ·subst hg;exact zPr tl t u o m A n c l hm hnu hfit tv htl w B0 hB0 hT hr
  ·exact zQE tl t g u o m hg A n c l hm hnu hfit tv htl w B0 hB0 hT hr
 ·exact rp32 tl t g u o m A n c l hm hnu hfit tv htl w B0 hB0 hT hr
theorem zCa (v:Nat):(hd v).length=8:=by unfold hd;rw [List.length_append,zDU];rfl
def inv (i:Nat):Value:=.int .i64 (i:Int)
def endL (ver:Int) (xs:List Rw) (i:Nat):List Value:=((List.range i).map (endO ver xs)).map inv
theorem zLb (ver:Int) (xs:List Rw) (i:Nat):endL ver xs (i+1)=endL ver xs i++[inv (endO ver xs i)]:=by
 unfold endL
 rw [List.range_succ,List.map_append,List.map_append]
 rfl
theorem zLR (ver:Int) (hv:¬ (1≤ver∧ver≤3)) (A:Option Addr) (n c:Nat) (w:World) :
  Calls Tryz.prog 8 #[.int .i64 ver,.slice A n c] w fun e w' =>∃ en,e=.returned (.tuple #[.string ⟨#[]⟩,en,.int .i64 11])∧w'.ownsRow w.heap.size 3 1 en 0 []∧Below w.heap.size w w':=by
 have hvv:Go.Proofs.YtoclafdidjpndaaGreatDoor.ver ver=false:=zDp (by omega)
 have HRH:=yh (zLG ver hvv w)
 clear hvv
 go_enter Tryz.func8,Tryz.ntmps8
 go_wp2_with fail
 refine HRH.out.mono ?_
 rintro e w1 ⟨rfl,rfl⟩
 have HO:=yh (zBF w 3)
 have HB2:=yh ((Below.refl w.heap.size w).alloc (Nat.le_refl _) (.cells #[] 3))
 go_wp2
 go_ret3
 exact ⟨_,rfl,HO.out,HB2.out⟩
theorem zIq (v:Nat) (hv:1≤v∧v≤3) (xs:List Rw) (A:Option Addr) (n c:Nat) (hn:n≤30) (hok:∀ x ∈ xs,Fits x.r x.l∧Nums x.r x.l∧x.n≤100000) (w:World) (h:Recs w w.heap.size A n xs) :
  Calls Tryz.prog 8 #[.int .i64 (v:Int),.slice A n c] w fun e w' =>((zBD (v:Int) xs∧∃ en,e=.returned (.tuple #[.string (tx (zDA v (v:Int) xs)),en,.int .i64 0])∧w'.ownsRow w.heap.size 3 1 en n (endL (v:Int) xs n))∨(¬ zBD (v:Int) xs∧∃ en,e=.returned (.tuple #[.string ⟨#[]⟩,en,.int .i64 1])∧w'.ownsRow w.heap.size 3 1 en 0 []))∧Below w.heap.size w w':=by
 obtain ⟨ii,hi,hi0,hi1,hi2⟩:=info_parts zDv
 obtain ⟨vi,hvi⟩:∃ vi:Int,vi=(v:Int):=⟨_,rfl⟩
 have HHD:=yh (zNZ v hv w)
 have HL:Hid (xs.length=n):=h.len
 have HR:=yh h
 have HOK:=yh hok
 have HV:=yh hv
 rw [← hvi] at HHD ⊢
 have HVI:=yh hvi
 clear h hok hv hvi
 go_enter Tryz.func8,Tryz.ntmps8
 go_wp2_with fail
 refine HHD.out.mono ?_
 rintro e w1 ⟨rfl,hb⟩
 have HB1:=yh hb
 have HO1:Hid (((w1.alloc (.cells #[] 3)).alloc (.cells #[] 9)).ownsRow w.heap.size 3 1 (.slice (some ⟨w1.heap.size,0,none⟩) 0 0) 0 []):=zAs (zAY (zBF w1 3) hb.size) _
 have HO2:Hid (Own ((w1.alloc (.cells #[] 3)).alloc (.cells #[] 9)) w.heap.size (.slice (some ⟨w1.heap.size+1,0,none⟩) 0 0) []):=by
  have h1:=zEz (base':=w.heap.size) (zBF (w1.alloc (.cells #[] 3)) 9) (by have:=hb.size;simp;omega)
  rw [World.size_alloc] at h1
  exact h1
 have HB3:Hid (Below w.heap.size w ((w1.alloc (.cells #[] 3)).alloc (.cells #[] 9))):=(hb.alloc hb.size _).alloc (by have:=hb.size;simp;omega) _
 clear hb
 go_wp2
 go_loopw [7,9,10,11] (fun v7 v9 v10 v11 wr =>∃ (i:Nat) (va vb:Value),va=v9∧vb=v10∧i≤n∧v11=.int .i64 (i:Int)∧zBD vi (xs.take i)∧v7=.string (tx (hd v++frs (zAL vi [] (xs.take i))))∧wr.ownsRow w.heap.size 3 1 va i (endL vi xs i)∧Own wr w.heap.size vb (zAb vi [] (xs.take i))∧Below w.heap.size w wr) (fun v7 v9 v10 v11 _ =>n - (intOf v11).toNat)
 case atStart =>exact ⟨0,_,_,rfl,rfl,Nat.zero_le _,rfl,(fun x hx =>by simp at hx),(by show Value.string (tx (hd v))=_;simp [zAL,frs]),HO1.out,HO2.out,HB3.out⟩
 case round =>
  obtain ⟨i,va,vb,rfl,rfl,hin,rfl,ham,rfl,ho1,ho2,hb⟩:=hrel
  obtain ⟨wA,hwA⟩:∃ x,x=wr:=⟨wr,rfl⟩
  subst hwA
  have HAM:=yh ham
  have HOa:=yh ho1
  have HOb:=yh ho2
  have HB:=yh hb
  have hlf:=zER ham (by rw [List.length_take];have:=HL.out;omega)
  have HLF:=yh hlf
  clear ham ho1 ho2 hb hlf
  by_cases hlt:i<n
  ·obtain ⟨x,hx⟩:∃ x,xs[i]? = some x:=⟨_,List.getElem?_eq_getElem (by rw [HL.out];exact hlt)⟩
   have hxm:=List.mem_of_getElem? hx
   obtain ⟨hfit,hnu,hxn⟩:=HOK.out x hxm
   obtain ⟨ad,rfl,_,c0,c1,c2,c3,c4,c5,c6⟩:=zCs (HR.out.below HB.out).1 i x hx
   have HRD:=yh (((HR.out.below HB.out).more HB.out.size).2 x hxm).1
   have HX:=yh hx
   have HFIT:=yh hfit
   have HNU:=yh hnu
   have hix0:(0:Int)≤(i:Int):=by omega
   have hix1:(i:Int)<(n:Int):=by omega
   obtain ⟨r,xA,xn,xc,l⟩:=x
   simp only at c0 c1 c2 c3 c4 c5 c6 HRD HFIT HNU hxn
   obtain ⟨S0,hS0⟩:∃ S0,S0=hd v++frs (zAL vi [] (xs.take i)):=⟨_,rfl⟩
   rw [← hS0]
   have HS0:=yh hS0
   have HI:Hid (i<n):=hlt
   clear hx hxm hfit hnu hS0 hlt
   by_cases hm:MayP vi r l
   ·have HM:=yh hm
    have HPUT:=yh (zLy vi (zAb vi [] (xs.take i)) r xA xn xc l hm HNU.out HFIT.out vb (by have:=HLF.out.2.1;omega) wA w.heap.size HB.out.size HOb.out HRD.out)
    clear hm
    go_wp2_with fail
    refine HPUT.out.mono ?_
    rintro e w4 ⟨v1,v2,rfl,hp1,hp2,hb4⟩
    obtain ⟨P1,pc,rfl,_⟩:=zAH hp1
    have HP1:=yh hp1
    have HP2:=yh hp2
    have HB4:=yh (HB.out.trans (hb4.mono HB.out.size))
    have HOa4:=yh (zAF HOa.out hb4)
    obtain ⟨pl,hpl⟩:∃ pl,pl=payL vi (zAb vi [] (xs.take i)) r l:=⟨_,rfl⟩
    have hpn:=zCR (tl:=zAb vi [] (xs.take i)) HM.out
    have hpp:=zEX HM.out HNU.out (by have:=HLF.out.2.1;omega:(zAb vi [] (xs.take i)).length≤1000000)
    rw [← hpl] at HP1 hpn hpp ⊢
    have HPL:=yh hpl
    have HPP:=yh hpp
    have HRP:=yh (zAE.of_own HP1.out)
    obtain ⟨m,hmm⟩:∃ m,m=pl.length:=⟨_,rfl⟩
    rw [← hmm] at HRP hpn ⊢
    have HMM:=yh hmm
    have hS0l:Hid (S0.length≤1200000):=by
     have h1:=HLF.out.2.2.1
     show _≤_
     rw [HS0.out,List.length_append]
     have h2:(hd v).length=8:=zCa v
     omega
    clear hp1 hp2 hb4 hpl hpp hmm HPUT
    go_wp2
    go_loopw [7,15] (fun v7 v15 wr2 =>∃ k:Nat,k≤m∧v15=.int .i64 (k:Int)∧v7=.string (tx (S0++frs (pl.take k)))∧Below w4.heap.size w4 wr2) (fun v7 v15 _ =>m - (intOf v15).toNat)
    case atStart =>exact ⟨0,Nat.zero_le _,rfl,(by simp [frs]),Below.refl _ _⟩
    case round =>
     obtain ⟨k,hkm,rfl,rfl,hb5⟩:=hrel
     have HB5:=yh hb5
     by_cases hk:k<m
     ·obtain ⟨p,hp⟩:∃ p,pl[k]? = some p:=⟨_,List.getElem?_eq_getElem (by rw [← HMM.out];exact hk)⟩
      have hpay:=HPP.out p (List.mem_of_getElem? hp)
      obtain ⟨ad1,u1,rfl,_,hu1,hcell1⟩:=(HRP.out.below hb5).at_ (k:=k) hk
      obtain rfl:u1=.string (tx p):=by rw [List.getElem?_map,hp] at hu1;exact (Option.some.inj hu1).symm
      have HFS:Hid ((S0++frs (pl.take k))++fr p=S0++frs (pl.take (k+1))):=(by show _=_;rw [zIF hp,List.append_assoc])
      have HRPT:=yh (zMm p hpay wr)
      have hfl:(frs (pl.take k)).length≤2062 * 19:=by
       have h1:=zDi (pl.take k) (fun q hq =>HPP.out q (List.mem_of_mem_take hq))
       rw [List.length_take] at h1
       have:2062 * min k pl.length≤2062 * 19:=Nat.mul_le_mul_left _ (by have:=HMM.out;omega)
       omega
      have hadd:=zAd (P:=Tryz.prog) wr (S0++frs (pl.take k)) (fr p) (by have h1:=zFg hpay;have h2:=hS0l.out;rw [List.length_append];omega)
      have HADD:=yh (fun W =>zAd (P:=Tryz.prog) W (S0++frs (pl.take k)) (fr p) (by have h1:=zFg hpay;have h2:=hS0l.out;rw [List.length_append];omega))
      rw [HFS.out] at HADD
      have hk0:(0:Int)≤(k:Int):=by omega
      have hk1:(k:Int)<(m:Int):=by omega
      have HK:Hid (k<m):=hk
      obtain ⟨sp,hsp⟩:∃ sp,sp=tx p:=⟨_,rfl⟩
      rw [← hsp] at hcell1 HRPT
      obtain ⟨sa,hsa⟩:∃ sa,sa=tx (S0++frs (pl.take k)):=⟨_,rfl⟩
      obtain ⟨sb,hsb⟩:∃ sb,sb=tx (fr p):=⟨_,rfl⟩
      obtain ⟨sc,hsc⟩:∃ sc,sc=tx (S0++frs (pl.take (k+1))):=⟨_,rfl⟩
      rw [← hsa,← hsb,← hsc] at HADD
      rw [← hsb] at HRPT
      rw [← hsa]
      have HSC:=yh hsc
      have hadd:=HADD.out
      clear hp hpay hu1 hb5 hfl hk hsp hsa hsb hsc
      go_wp2_with fail
      refine HRPT.out.mono ?_
      rintro e w6 ⟨rfl,hb6⟩
      have HB6:=yh (HB5.out.trans (hb6.mono HB5.out.size))
      clear hb6
      go_wp2
      exact ⟨⟨k+1,by have:=HK.out;omega,rfl,by rw [HSC.out],HB6.out⟩,by show m - (k+1)<m - k;have:=HK.out;omega⟩
     ·obtain rfl:k=m:=by omega
      have hfile:=zHU (ver:=vi) HX.out
      have HTK:Hid (pl.take k=pl):=List.take_of_length_le (by rw [HMM.out];exact Nat.le_refl _)
      have HEND:Hid (S0++frs (pl.take k)=hd v++frs (zAL vi [] (xs.take (i+1)))):=(by show _=_;rw [HTK.out,hfile.1,HS0.out,List.append_assoc,HPL.out])
      have HTB:Hid (zAb vi [] (xs.take (i+1))=tabT vi (zAb vi [] (xs.take i)) r l):=hfile.2
      rw [HEND.out]
      have HAM2:=yh (HAM.out.snoc HX.out HM.out HNU.out)
      have hlf2:=zER HAM2.out (by rw [List.length_take];have:=HL.out;omega)
      have HEO:Hid ((hd v++frs (zAL vi [] (xs.take (i+1)))).length=endO vi xs i):=(by show _=_;rw [List.length_append,zCa];rfl)
      have hsz:(tx (hd v++frs (zAL vi [] (xs.take (i+1))))).size=endO vi xs i:=by rw [zBH];exact HEO.out
      have HEL:Hid (endO vi xs i≤2000000):=(by have h1:=HEO.out;have h2:=hlf2.2.2.1;rw [List.length_append,zCa] at h1;show _≤_;omega)
      have hel:endO vi xs i≤2000000:=HEL.out
      obtain ⟨sf,hsf⟩:∃ sf,sf=tx (hd v++frs (zAL vi [] (xs.take (i+1)))):=⟨_,rfl⟩
      rw [← hsf] at hsz ⊢
      obtain ⟨ev,hev⟩:∃ ev,ev=endO vi xs i:=⟨_,rfl⟩
      rw [← hev] at hsz hel
      have HEV:=yh hev
      have HSF:=yh hsf
      have HOa5:=yh (zAF HOa4.out hb5)
      have HOt5:=yh (zAF HP2.out hb5)
      have HBW5:=yh (HB4.out.trans (hb5.mono HB4.out.size))
      have HAL:=yh (zAs HOa5.out (.cells #[inv ev] 3))
      have HAT:=yh (zAs HOt5.out (.cells #[inv ev] 3))
      have hin30:i<30:=by have:=HI.out;omega
      clear hfile hlf2 hev hsf hb5
      go_wp2_with (at_builtin;refine wpList_append_own _ rfl (.tmp 68) (.tmp 71) 29 rfl w.heap.size 3 ii (.int .i64 0) 1 8 Tryz.underlying29 hi hi0 hi1 hi2 rfl (by decide) va i (endL vi xs i) rfl HAL.out ⟨wr.heap.size,0,none⟩ 1 1 [inv ev] rfl rfl (cell_one_new _ _ _) (by simp [Value.oneCell',inv]) (by unfold maxLen;omega) (by omega) (by have:=HBW5.out.size;simp;omega) ?_;intro e2 w7 ho7 hg7 _)
      have HO7:=yh ho7
      have HT7:=yh (zAk HAL.out HAT.out (by decide) hg7)
      have HB7:=yh ((HBW5.out.alloc HBW5.out.size (.cells #[inv ev] 3)).grown hg7 (by have:=HBW5.out.size;simp;omega) (zAI HAL.out))
      clear ho7 hg7
      (try go_wp2)
      refine ⟨⟨i+1,_,_,rfl,rfl,by have:=HI.out;omega,rfl,HAM2.out,by rw [HSF.out],?_,?_,HB7.out⟩,by show n - (i+1)<n - i;have:=HI.out;omega⟩
      ·rw [zLb,← HEV.out];exact HO7.out
      ·rw [HTB.out];exact HT7.out
   ·have HM:=yh hm
    have HPUT:=yh (zLH vi r.kind r.target r.tag r.rule r.out r.time xA xn xc l hm hxn HFIT.out)
    have HNA:Hid (¬ zBD vi xs):=fun h1 =>HM.out (h1 _ (List.mem_of_getElem? HX.out)).1
    have HWY:Hid (zDb vi=1):=if_pos (by have:=HV.out;have:=HVI.out;omega)
    obtain ⟨L9,c9,rfl,_⟩:=zAH HOb.out
    have HPT:=yh (HPUT.out L9 (zAb vi [] (xs.take i)).length c9 wA HRD.out)
    rw [HWY.out] at HPT
    clear hm HPUT
    go_wp2_with fail
    refine HPT.out.mono ?_
    rintro e w4 ⟨v1,rfl,_,hb4⟩
    have HB4:=yh (HB.out.trans (hb4.mono HB.out.size))
    have HO:=yh (zAY (zBF w4 3) HB4.out.size)
    have HB5:=yh (HB4.out.alloc HB4.out.size (.cells #[] 3))
    clear hb4
    go_wp2
    go_ret3
    exact ⟨.inr ⟨HNA.out,_,rfl,HO.out⟩,HB5.out⟩
  ·obtain rfl:i=n:=by omega
   have HTK:Hid (xs.take i=xs):=List.take_of_length_le (by rw [HL.out];exact Nat.le_refl _)
   have HAX:Hid (zBD vi xs):=(by have h1:=HAM.out;rw [HTK.out] at h1;exact h1)
   rw [HTK.out]
   go_wp2
   go_ret3
   exact ⟨.inl ⟨HAX.out,_,rfl,HOa.out⟩,HB.out⟩
open Go.RowKit Go.Shelf
def Mine (w:World) (B:Nat) (v:Value) (bs:List UInt8):Prop :=
 (v=.slice none 0 0∧bs=[]) ∨ ∃ g c cs f,v=.slice (some ⟨g,0,none⟩) bs.length c∧bs.length≤c∧B≤g∧w.heap[g]? = some (.cells cs 5 (f,f+1))∧bs.length≤f∧∀ (i:Nat) (u:Value),(bs.map bv)[i]? = some u→cs[i]? = some u
theorem Mine.keep {w w':World} {B:Nat} {v:Value} {bs:List UInt8} (h:Mine w B v bs) (hk:∀ (g:Nat) (cs:Array Value) (f:Nat×Nat),B≤g→w.heap[g]? = some (.cells cs 5 f)→w'.heap[g]? = w.heap[g]?):Mine w' B v bs:=by
 rcases h with h | ⟨g,c,cs,f,h1,h2,h3,h4,h5,h6⟩
 ·exact .inl h
 ·exact .inr ⟨g,c,cs,f,h1,h2,h3,(hk g cs _ h3 h4).trans h4,h5,h6⟩
theorem Mine.below {w w':World} {B:Nat} {v:Value} {bs:List UInt8} (h:Mine w B v bs) (hb:Below w.heap.size w w'):Mine w' B v bs :=
 h.keep fun g _ _ _ hg =>hb.block g (Array.getElem?_eq_some_iff.1 hg).1
theorem Mine.less {w:World} {B B':Nat} {v:Value} {bs:List UInt8} (h:Mine w B v bs) (hB:B'≤B):Mine w B' v bs:=by
 rcases h with h | ⟨g,c,cs,f,h1,h2,h3,h4,h5,h6⟩
 ·exact .inl h
 ·exact .inr ⟨g,c,cs,f,h1,h2,Nat.le_trans hB h3,h4,h5,h6⟩
theorem Mine.reads {w:World} {B:Nat} {v:Value} {bs:List UInt8} (h:Mine w B v bs):∃ A c,v=.slice A bs.length c∧bs.length≤c∧(A=none→c=0)∧zAE w w.heap.size 1 A bs.length (bs.map bv):=by
 rcases h with ⟨rfl,rfl⟩ | ⟨g,c,cs,f,h1,h2,h3,h4,h5,h6⟩
 ·exact ⟨none,0,rfl,Nat.le_refl _,fun _ =>rfl,zAE.none_⟩
 ·refine ⟨some ⟨g,0,none⟩,c,h1,h2,(fun e =>by cases e),by simp,fun _ =>⟨_,rfl,(Array.getElem?_eq_some_iff.1 h4).1,fun j u hj =>?_⟩⟩
  have h0:Addr.add ⟨g,0,none⟩ j=⟨g,j,none⟩:=by
   unfold Addr.add
   split
   ·rename_i h;rw [h]
   ·simp
  rw [h0]
  simp only [World.cell?,h4]
  simpa using h6 j u hj
theorem zKw (W:World) (bs:List UInt8) (cap:Nat) (hc:bs.length≤cap) :
  Mine (W.alloc (.cells (bytesRow (tx bs) cap) 5 ((bytesRow (tx bs) cap).size,(bytesRow (tx bs) cap).size+1))) W.heap.size (.slice (some ⟨W.heap.size,0,none⟩) (tx bs).size cap) bs:=by
 refine .inr ⟨W.heap.size,cap,bytesRow (tx bs) cap,(bytesRow (tx bs) cap).size,by rw [zBH],hc,Nat.le_refl _,by show (W.heap.push _)[W.heap.size]? = _;simp,?_,?_⟩
 ·have:(bytesRow (tx bs) cap).size=cap:=by
   have:=zBH bs
   simp only [bytesRow,Array.size_append,Array.size_map,Array.size_replicate]
   rw [this];simp [tx];omega
  omega
 ·intro i u hu
  have hlt:=(List.getElem?_eq_some_iff.1 hu).1
  have hlt2:i<bs.length:=by simpa using hlt
  rw [bytesRow_at (tx bs) cap i (by simpa [tx] using hlt2),← hu]
  simp [tx,bv,hlt2]
theorem zMU (A:Option Addr) (n c at_:Nat) (bs:List UInt8) (hc:n≤c) (hn:n≤1073741824) (hat:at_≤n) (w:World) (hl:Laid w) (hr:zAE w w.heap.size 1 A n (bs.map bv)) :
  Calls Tryz.prog 59 #[.slice A n c,.int .i64 (at_:Int)] w fun e w' =>∃ v,e=.returned (.tuple #[v,.int .i64 ((fg at_ bs).2.1:Int),.int .i64 ((fg at_ bs).2.2:Int)])∧Mine w' w.heap.size v (fg at_ bs).1∧Below w.heap.size w w':=by
 have hbn:bs.length=n:=by have:=hr.1;simpa using this
 by_cases h0:at_=n
 ·subst h0
  have e0:fg at_ bs=([],0,6):=by rw [← hbn];exact zGq bs
  rw [e0]
  clear hbn e0
  go_enter Tryz.func59,Tryz.ntmps59
  go_wp2
  go_ret3
  exact ⟨_,rfl,.inl ⟨rfl,rfl⟩,Below.refl _ _⟩
 have hne:((at_:Int) == (n:Int))=false:=by rw [beq_eq_false_iff_ne];omega
 have hnb:at_≠bs.length:=by omega
 have HG0:=zIB A n c at_ 2048 w.heap.size bs hc hn (by omega) hat w hr
 have hfive:(∃ e0,(e0=2∨e0=3∨e0=5)∧bg 2048 at_ bs=([],0,e0)) ∨ ∃ s nx,bg 2048 at_ bs=(s,nx,0):=by
  rcases zFi (most:=2048) (at_:=at_) (bs:=bs) with h | h | h | h
  ·exact .inl ⟨2,by simp,h⟩
  ·exact .inl ⟨3,by simp,h⟩
  ·exact .inl ⟨5,by simp,h⟩
  ·exact .inr h
 rcases hfive with ⟨e0,he0,hg⟩ | ⟨s,nx,hg⟩
 ·rw [zFE hnb hg (by omega)]
  rw [hg] at HG0
  clear hg hbn hnb
  rcases he0 with rfl | rfl | rfl
  all_goals
   have HG:=yh HG0
   clear HG0
   go_enter Tryz.func59,Tryz.ntmps59
   go_wp2_with (go_at_call 86;refine HG.out.mono ?_;rintro e w1 ⟨rfl,rfl⟩;unfold bres)
   go_ret3
   exact ⟨_,rfl,.inl ⟨rfl,rfl⟩,Below.refl _ _⟩
 ·rw [hg] at HG0
  have hb1:=zGl hg
  have hm1:=zGv hg
  by_cases hs:s=[]
  ·subst hs
   rw [zHG hnb hg]
   clear hg hbn hnb hb1
   have HG:=yh HG0
   clear HG0
   have hem:(tx ([]:List UInt8))=⟨#[]⟩:=rfl
   go_enter Tryz.func59,Tryz.ntmps59
   go_wp2_with (go_at_call 86;refine HG.out.mono ?_;rintro e w1 ⟨rfl,rfl⟩;unfold bres;rw [hem])
   go_ret3
   exact ⟨_,rfl,.inl ⟨rfl,rfl⟩,Below.refl _ _⟩
  ·have hse:((tx s).toList == [])=false:=by rw [zBG];simpa using hs
   have hbr:bres (s,nx,0)=.tuple #[.string (tx s),.int .i64 (nx:Int),.int .i64 0]:=rfl
   rw [hbr] at HG0
   have hnx1:at_<nx:=hb1.1
   have hnx2:nx≤n:=by omega
   have HB1:=yh hb1
   clear hbr hb1
   by_cases hsh:n<nx+4
   ·rw [zFz hnb hg hs (by omega)]
    have HG:=yh HG0
    have HR:=yh (zMi A n c (nx:Int) hn (.inr (by omega)) w)
    obtain ⟨t,ht⟩:∃ t,t=tx s:=⟨_,rfl⟩
    rw [← ht] at HG hse
    clear HG0 hg hs hbn hnb ht
    go_enter Tryz.func59,Tryz.ntmps59
    go_wp2_with (first
     | (go_at_call 86;refine HG.out.mono ?_;rintro e w1 ⟨rfl,rfl⟩)
     | (go_at_call 40;refine HR.out.mono ?_;rintro e w1 ⟨rfl,rfl⟩))
    go_ret3
    exact ⟨_,rfl,.inl ⟨rfl,rfl⟩,Below.refl _ _⟩
   ·have hR0:=zJT A n c nx bs hn hc (by omega) w hr
    have hcut:=(hr.take (k:=nx) (by omega)).cut (k:=at_) (cap:=c) (by omega) (by omega)
    simp only [Nat.mul_one] at hcut
    have hlen4:((bs.drop nx).take 4).length=4:=by rw [List.length_take,List.length_drop];omega
    have hrow:((bs.map bv).take nx).drop at_=((bs.drop at_).take (nx - at_)).map bv:=by
     rw [List.map_take,List.map_drop,List.drop_take]
    rw [hrow] at hcut
    have hne2:¬ (c=at_):=by omega
    rw [if_neg hne2] at hcut
    obtain ⟨ad,rfl,hadb,_⟩:=hr.2 (by omega)
    have hS0:=zHE w (.slice (some (ad.add at_)) (nx - at_) (c - at_)) ((bs.drop at_).take (nx - at_)) hl ⟨_,nx - at_,c - at_,rfl,by omega,by omega,hcut⟩
    by_cases hc4:le4 ((bs.drop nx).take 4)=crc ((bs.drop at_).take (nx - at_))
    ·rw [zHu hnb hg hs (by omega) ((zGS hlen4).1 hc4)]
     rw [hc4] at hR0
     have hmine:=fun (W:World) (cap:Nat) (h1:s.length≤cap) =>zKw W s cap h1
     obtain ⟨q,hq⟩:∃ q,q=crc ((bs.drop at_).take (nx - at_)):=⟨_,rfl⟩
     rw [← hq] at hS0 hR0
     obtain ⟨a,ha⟩:∃ a,a=q.toNat:=⟨_,rfl⟩
     have hwq:wv q=.int .u32 (a:Int):=by rw [wv,ha]
     rw [hwq] at hS0 hR0
     have HG:=yh HG0
     have HR:=yh hR0
     have HS:=yh hS0
     have HM:=yh hmine
     obtain ⟨t,ht⟩:∃ t,t=tx s:=⟨_,rfl⟩
     have hts:t.size=s.length:=by rw [ht,zBH]
     have HTS:=yh hts
     rw [← ht] at HG hse HM
     have kb:=fun W:World =>run_bytes_of_string (P:=Tryz.prog) W 9 25 5 t Tryz.underlying9 Tryz.underlying25 Tryz.underlying5
     clear HG0 hg hs hbn hnb hR0 hS0 hmine hcut hrow hlen4 hc4 hq ha hwq ht hts
     go_enter Tryz.func59,Tryz.ntmps59
     go_wp2_with (first
      | (go_at_call 86;refine HG.out.mono ?_;rintro e w1 ⟨rfl,rfl⟩)
      | (go_at_call 40;refine HR.out.mono ?_;rintro e w1 ⟨rfl,rfl⟩)
      | (go_at_call 41;refine HS.out.mono ?_;rintro e w1 ⟨rfl,rfl⟩))
     go_ret3
     refine ⟨_,rfl,?_,((Below.refl _ w).alloc (Nat.le_refl _) _).drew.alloc (by simp) _⟩
     have h:=HM.out ((w.alloc (.cells #[.slice (some (ad.add at_)) (nx - at_) (c - at_)] 25)).drew) (grownCap (w.alloc (.cells #[.slice (some (ad.add at_)) (nx - at_) (c - at_)] 25)) t.size 0 5) (by rw [← HTS.out];exact grownCap_ge _ _ _ _)
     have h2:=h.less (B':=w.heap.size) (by simp)
     have e:(w.alloc (.cells #[.slice (some (ad.add at_)) (nx - at_) (c - at_)] 25)).drew.heap.size=w.heap.size+1:=by simp
     rw [e] at h2
     exact h2
    ·rw [zIU hnb hg hs (by omega) (fun e4 =>hc4 ((zGS hlen4).2 e4))]
     obtain ⟨q,hq⟩:∃ q,q=crc ((bs.drop at_).take (nx - at_)):=⟨_,rfl⟩
     obtain ⟨q2,hq2⟩:∃ q2,q2=le4 ((bs.drop nx).take 4):=⟨_,rfl⟩
     rw [← hq] at hS0 hc4
     rw [← hq2] at hR0 hc4
     obtain ⟨a,ha⟩:∃ a,a=q.toNat:=⟨_,rfl⟩
     obtain ⟨b,hb⟩:∃ b,b=q2.toNat:=⟨_,rfl⟩
     have hne3:¬ (b=a):=fun e =>hc4 (BitVec.eq_of_toNat_eq (by omega))
     have hwq:wv q=.int .u32 (a:Int):=by rw [wv,ha]
     have hwq2:wv q2=.int .u32 (b:Int):=by rw [wv,hb]
     rw [hwq] at hS0
     rw [hwq2] at hR0
     have HG:=yh HG0
     have HR:=yh hR0
     have HS:=yh hS0
     obtain ⟨t,ht⟩:∃ t,t=tx s:=⟨_,rfl⟩
     rw [← ht] at HG hse
     clear HG0 hg hs hbn hnb hR0 hS0 hcut hrow hlen4 hc4 hq hq2 ha hb hwq hwq2 ht
     go_enter Tryz.func59,Tryz.ntmps59
     go_wp2_with (first
      | (go_at_call 86;refine HG.out.mono ?_;rintro e w1 ⟨rfl,rfl⟩)
      | (go_at_call 40;refine HR.out.mono ?_;rintro e w1 ⟨rfl,rfl⟩)
      | (go_at_call 41;refine HS.out.mono ?_;rintro e w1 ⟨rfl,rfl⟩))
     go_ret3
     exact ⟨_,rfl,.inl ⟨rfl,rfl⟩,(Below.refl _ w).alloc (Nat.le_refl _) _⟩
theorem zKv (bt:Nat) (ver:Int) (hv:1≤ver∧ver≤3) (r:Rc) (A:Option Addr) (n c:Nat) (l:List Dp) (hm:¬ MayP ver r l) (hn:n≤1000) (hfit:Fits r l) (w:World) (hr:zAE w w.heap.size 3 A n (dps l)) :
  Calls Tryz.prog 15 #[.int .i64 ver,.pointer (some ⟨bt,0,none⟩),.agg #[.int .i64 r.kind,.string (tx r.target),.int .u64 r.rule,.slice A n c,.int .u64 r.out,.int .u64 r.time,.string (tx r.tag)]] w fun e w' =>e=.returned (.tuple #[.slice none 0 0,.int .i64 1])∧Below w.heap.size w w':=by
 have hb0:=(Below.refl w.heap.size w).alloc (Nat.le_refl _) (.cells #[.int .i64 r.kind,.string (tx r.target),.int .u64 r.rule,.slice A n c,.int .u64 r.out,.int .u64 r.time,.string (tx r.tag)] 45)
 have hbx:=zAG w (.cells #[.int .i64 r.kind,.string (tx r.target),.int .u64 r.rule,.slice A n c,.int .u64 r.out,.int .u64 r.time,.string (tx r.tag)] 45)
 have p0:=zAA (i:=0) hbx rfl;have p1:=zAA (i:=1) hbx rfl;have p2:=zAA (i:=2) hbx rfl;have p3:=zAA (i:=3) hbx rfl;have p4:=zAA (i:=4) hbx rfl;have p5:=zAA (i:=5) hbx rfl;have p6:=zAA (i:=6) hbx rfl
 have HB0:=yh hb0
 have hput:=zJn bt ver r A n c l hm hn hfit (w.alloc (.cells #[.int .i64 r.kind,.string (tx r.target),.int .u64 r.rule,.slice A n c,.int .u64 r.out,.int .u64 r.time,.string (tx r.tag)] 45)) ((hr.below hb0).more hb0.size)
 rw [show zDb ver=1 from if_pos hv] at hput
 have HPUT:=yh hput
 clear hb0 hbx hput hm hr hfit
 go_enter Tryz.func15,Tryz.ntmps15
 go_wp2_with fail
 refine HPUT.out.mono ?_
 rintro e w2 ⟨rfl,hb⟩
 have HB2:=yh (HB0.out.trans (hb.mono HB0.out.size))
 clear hb
 go_wp2
 go_ret2
 exact ⟨rfl,HB2.out⟩
theorem zME (S:Nat→Prop) (bt N n c:Nat) (ver:Int) (tl:List (List UInt8)) (r:Rc) (A:Option Addr) (l:List Dp) (hm:MayP ver r l) (hfit:Fits r l) (hnu:Nums r l) (htl:tl.length≤100000) (hN:N≤100000000) (w:World) (hT:Tab w S bt N tl) (hap:∀ ad,A=some ad→0<n→¬ S ad.block) (hr:zAE w w.heap.size 3 A n (dps l)) (hld:∀ W,Turn S w W→Laid W) :
  Calls Tryz.prog 15 #[.int .i64 ver,.pointer (some ⟨bt,0,none⟩),.agg #[.int .i64 r.kind,.string (tx r.target),.int .u64 r.rule,.slice A n c,.int .u64 r.out,.int .u64 r.time,.string (tx r.tag)]] w fun e w' =>∃ (v:Value) (S':Nat→Prop),e=.returned (.tuple #[v,.int .i64 0])∧w'.ownsRow w.heap.size 5 1 v (frs (payL ver tl r l)).length ((frs (payL ver tl r l)).map bv)∧(∀ g,v.ownBlock=some g→¬ S' g)∧Tab w' S' bt (N+18) (tabT ver tl r l)∧(∀ k,S' k→k<w'.heap.size∧(S k∨w.heap.size≤k))∧Turn S w w':=by
 obtain ⟨iu,hi,hi0,hi1,hi2⟩:=info_parts zCT
 have hb0:=(Below.refl w.heap.size w).alloc (Nat.le_refl _) (.cells #[.int .i64 r.kind,.string (tx r.target),.int .u64 r.rule,.slice A n c,.int .u64 r.out,.int .u64 r.time,.string (tx r.tag)] 45)
 have hbx:=zAG w (.cells #[.int .i64 r.kind,.string (tx r.target),.int .u64 r.rule,.slice A n c,.int .u64 r.out,.int .u64 r.time,.string (tx r.tag)] 45)
 have p0:=zAA (i:=0) hbx rfl;have p1:=zAA (i:=1) hbx rfl;have p2:=zAA (i:=2) hbx rfl;have p3:=zAA (i:=3) hbx rfl;have p4:=zAA (i:=4) hbx rfl;have p5:=zAA (i:=5) hbx rfl;have p6:=zAA (i:=6) hbx rfl
 have HB0:=yh hb0
 have HT0:Hid (Turn S w (w.alloc (.cells #[.int .i64 r.kind,.string (tx r.target),.int .u64 r.rule,.slice A n c,.int .u64 r.out,.int .u64 r.time,.string (tx r.tag)] 45))):=Turn.of_below hb0
 have HPUT:=yh (zIG S bt N n c ver tl r A l hm hfit hnu (by omega) (by omega) (w.alloc (.cells #[.int .i64 r.kind,.string (tx r.target),.int .u64 r.rule,.slice A n c,.int .u64 r.out,.int .u64 r.time,.string (tx r.tag)] 45)) (hT.keep (fun k _ hk =>hb0.block k hk)) hap ((hr.below hb0).more hb0.size))
 have HLD:=yh hld
 have hpp:=zEX hm hnu (by omega:tl.length≤1000000)
 have hpn:=zCR (tl:=tl) hm
 obtain ⟨pl,hpl⟩:∃ pl,pl=payL ver tl r l:=⟨_,rfl⟩
 rw [← hpl] at HPUT hpp hpn ⊢
 have HPP:=yh hpp
 obtain ⟨m,hmm⟩:∃ m,m=pl.length:=⟨_,rfl⟩
 rw [← hmm] at hpn
 have HMM:=yh hmm
 clear hb0 hbx hpp hm hr hfit hnu hT hap hld hpl hmm
 go_enter Tryz.func15,Tryz.ntmps15
 go_wp2_with fail
 refine HPUT.out.mono ?_
 rintro e w2 ⟨va,S2,rfl,ht2,hs2,⟨vs,hrw⟩,htu⟩
 obtain ⟨P1,pc,rfl,_⟩:=zAH hrw.1
 have HT2:Hid (Turn S w w2):=HT0.out.trans htu (fun k hk hs =>hs)
 have HTAB:=yh ht2
 have HS2:Hid (∀ k,S2 k→k<w2.heap.size∧(S k∨w.heap.size≤k)):=fun k hk =>⟨(hs2 k hk).1,(hs2 k hk).2.imp id (fun h =>Nat.le_trans HB0.out.size h)⟩
 have hrd:=zAE.of_own hrw.1
 rw [← HMM.out] at hrd ⊢
 have HRD:=yh hrd
 have HRW:=yh hrw
 clear ht2 hs2 hrw htu hrd HPUT p0 p1 p2 p3 p4 p5 p6
 go_wp2
 go_loopw [10,27] (fun v10 v27 wr =>∃ (k:Nat) (vb:Value),vb=v10∧k≤m∧v27=.int .i64 (k:Int)∧wr.ownsRow w2.heap.size 5 1 vb (frs (pl.take k)).length ((frs (pl.take k)).map bv)∧Below w2.heap.size w2 wr) (fun v10 v27 _ =>m - (intOf v27).toNat)
 case atStart =>exact ⟨0,_,rfl,Nat.zero_le _,rfl,(by show World.ownsRow _ _ _ _ _ 0 [];exact World.ownsRow_nil _ _ _ _),Below.refl _ _⟩
 case round =>
  obtain ⟨k,vb,rfl,hkm,rfl,ho,hb⟩:=hrel
  have HO:=yh ho
  have HB:=yh hb
  have hfl:(frs (pl.take k)).length≤2062 * 19:=by
   have h1:=zDi (pl.take k) (fun q hq =>HPP.out q (List.mem_of_mem_take hq))
   rw [List.length_take] at h1
   have:2062 * min k pl.length≤2062 * 19:=Nat.mul_le_mul_left _ (by have:=HMM.out;omega)
   omega
  by_cases hk:k<m
  ·obtain ⟨p,hp⟩:∃ p,pl[k]? = some p:=⟨_,List.getElem?_eq_getElem (by rw [← HMM.out];exact hk)⟩
   have hpay:=HPP.out p (List.mem_of_getElem? hp)
   obtain ⟨v,hv5,hv6,hv7⟩:=HRW.out.2.2.2 k p hp
   obtain ⟨A6,c6,rfl,hA6⟩:=zAH hv6
   obtain ⟨ad1,u1,rfl,_,hu1,hcell1⟩:=(HRD.out.below hb).at_ (k:=k) hk
   obtain rfl:u1=.slice A6 p.length c6:=by rw [hv5] at hu1;exact (Option.some.inj hu1).symm
   have hq:zAE wr wr.heap.size 1 A6 p.length (p.map bv):=((zAE.of_own hv6).below hb).more hb.size
   have hlw:Laid wr:=HLD.out wr (HT2.out.trans (Turn.of_below (S:=S) hb) (fun _ _ h =>h))
   have HPT:=yh (zMv none A6 0 0 p.length c6 [] p hpay (by omega) (Nat.le_refl _) (fun _ =>rfl) wr hlw ⟨by simp,fun h =>absurd h (by omega)⟩ hq)
   have HFS:Hid (frs (pl.take k)++fr p=frs (pl.take (k+1))):=(zIF hp).symm
   have hfp:=zFg hpay
   have HFP:=yh hfp
   have HK:Hid (k<m):=hk
   have hk0:(0:Int)≤(k:Int):=by omega
   have hk1:(k:Int)<(m:Int):=by omega
   obtain ⟨pn,hpn2⟩:∃ pn,pn=p.length:=⟨_,rfl⟩
   rw [← hpn2] at hcell1 HPT
   clear hp hpay hv5 hv6 hv7 hA6 hu1 hq hlw hb ho hk hpn2
   go_wp2_with fail
   refine HPT.out.mono ?_
   rintro e w4 ⟨v4,rfl,ho4,hb4⟩
   obtain ⟨A4,c4,rfl,hA4⟩:=zAH ho4
   have HB4:=yh (HB.out.trans (hb4.mono HB.out.size))
   have HR4:=yh (zAE.of_own ho4)
   have HO4:=yh (zAF HO.out hb4)
   have HNE:Hid (([]:List UInt8)++fr p=fr p):=List.nil_append _
   rw [HNE.out] at HR4 ⊢
   clear ho4 hb4
   go_wp2_with (at_builtin;refine zBx _ rfl (.tmp 39) (.tmp 40) 25 rfl w2.heap.size 5 iu (.int .u8 0) 1 Tryz.underlying25 hi hi0 hi1 hi2 rfl vb (frs (pl.take k)).length ((frs (pl.take k)).map bv) rfl HO4.out A4 (fr p).length c4 _ _ rfl hA4 HR4.out (zCV _) (by unfold maxLen;omega) (by omega) HB4.out.size ?_;intro v5 w5 ho5 hg5)
   have HB5:=yh (HB4.out.grown hg5 HB4.out.size (zAI HO4.out))
   have HO5:=yh ho5
   clear ho5 hg5
   (try go_wp2)
   refine ⟨⟨k+1,_,rfl,by have:=HK.out;omega,rfl,?_,HB5.out⟩,by show m - (k+1)<m - k;have:=HK.out;omega⟩
   have h1:=HO5.out
   rw [← List.map_append,HFS.out,← List.length_append,HFS.out] at h1
   exact h1
  ·obtain rfl:k=m:=by omega
   have HTK:Hid (pl.take k=pl):=List.take_of_length_le (by rw [HMM.out];exact Nat.le_refl _)
   rw [HTK.out] at HO
   have HNS:Hid (∀ g,vb.ownBlock=some g→¬ S2 g):=fun g hg hs =>by
    have h1:=zAI HO.out g hg
    have h2:=(HS2.out g hs).1
    omega
   have HTW:=yh (HT2.out.trans (Turn.of_below (S:=S) hb) (fun _ _ h =>h))
   have HSZ:Hid (w.heap.size≤w2.heap.size):=HT2.out.2.2.2.1
   clear ho hb
   go_wp2
   go_ret2
   exact ⟨vb,S2,rfl,zAY HO.out HSZ.out,HNS.out,HTAB.out.keep (fun j _ hj =>HB.out.block j hj),fun j hj =>⟨Nat.lt_of_lt_of_le (HS2.out j hj).1 HB.out.size,(HS2.out j hj).2⟩,HTW.out⟩
end Go.Proofs.YtoclafdidjpndaaGreatDoor
