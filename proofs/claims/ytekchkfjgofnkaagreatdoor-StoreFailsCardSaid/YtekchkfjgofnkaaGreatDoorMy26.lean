/- Texts of one proof. -/
import Derived.Test.YtekchkfjgofnkaaGreatDoorMy25
set_option maxRecDepth 100000
set_option maxHeartbeats 8000000
namespace Go.Proofs.YtekchkfjgofnkaaGreatDoor
open Go.RowKit
structure CpSt (w:World) (bt:Nat) (tl:List (List UInt8)) (v:Value) (bs:List UInt8) (M:Nat) (S:Nat→Prop) (wr:World):Prop where
 tab:∃ N,N≤M∧Tab wr S bt N tl
 lo:∀ k,S k→w.heap.size≤k∧k<wr.heap.size
 own:wr.ownsRow w.heap.size 5 1 v bs.length (bs.map bv)
 un:∀ g,v.ownBlock=some g→¬ S g
 b:Below w.heap.size w wr
theorem zOe (ver:Int) (hv:¬ (1≤ver∧ver≤3)) (A:Option Addr) (n c:Nat) (w:World) :
  Calls Tryz.prog 68 #[.int .i64 ver,.slice A n c] w fun e w' =>e=.returned (.tuple #[.slice none 0 0,.int .i64 11])∧Below w.heap.size w w':=by
 have hvv:Go.Proofs.YtekchkfjgofnkaaGreatDoor.ver ver=false:=zKI (by omega)
 have HRH:=yh (zPF ver hvv w)
 have HB:=yh (Below.refl w.heap.size w)
 clear hvv
 go_enter Tryz.func68,Tryz.ntmps68
 go_wp2_with fail
 refine HRH.out.mono ?_
 rintro e w1 ⟨rfl,rfl⟩
 go_wp2
 go_ret2
 exact ⟨rfl,HB.out⟩
theorem zGf {ver:Int} {xs:List Rw} (h:zAe ver xs) (hl:xs.length≤1000):(zAH ver [] xs).length≤19000∧(zAV ver [] xs).length≤18000∧(frs (zAH ver [] xs)).length≤39178000∧∀ p ∈ zAH ver [] xs,pay p:=by
 have h1:=zFJ (ver:=ver) xs [] h.may
 have h2:=zFR (ver:=ver) xs [] h.may
 have h3:=zFK xs [] h (by simp;omega)
 have h4:=zEC _ h3
 simp only [List.length_nil] at h2
 exact ⟨by omega,by omega,by omega,h3⟩
theorem zHn (v:Nat) (hv:1≤v∧v≤3) (xs:List Rw) (A:Option Addr) (n c:Nat) (hn:n≤1000) (hok:∀ x ∈ xs,Fits x.r x.l∧Nums x.r x.l∧x.n≤1000) (w:World) (hl:Laid w) (h:Recs w w.heap.size A n xs) :
  Calls Tryz.prog 68 #[.int .i64 (v:Int),.slice A n c] w fun e w' =>((zAe (v:Int) xs∧∃ u,e=.returned (.tuple #[u,.int .i64 0])∧w'.ownsRow w.heap.size 5 1 u (zAS v (v:Int) xs).length ((zAS v (v:Int) xs).map bv))∨(¬ zAe (v:Int) xs∧e=.returned (.tuple #[.slice none 0 0,.int .i64 1])))∧Below w.heap.size w w':=by
 obtain ⟨iu,hi,hi0,hi1,hi2⟩:=info_parts zCX
 obtain ⟨vi,hvi⟩:∃ vi:Int,vi=(v:Int):=⟨_,rfl⟩
 have hv3:1≤vi∧vi≤3:=by omega
 have HHD:=yh (zRB v hv w hl)
 have HL:Hid (xs.length=n):=h.len
 have HR:=yh h
 have HOK:=yh hok
 have HV3:=yh hv3
 have HLD:=yh hl
 rw [← hvi] at HHD ⊢
 clear h hok hv hvi hv3 hl
 go_enter Tryz.func68,Tryz.ntmps68
 go_wp2_with fail
 refine HHD.out.mono ?_
 rintro e w1 ⟨u1,rfl,ho1,hb1⟩
 have HO1:=yh ho1
 have HB1:=yh hb1
 clear ho1 hb1
 go_wp2_with fail
 refine (zGD none 0 0 w1.heap.size [] (by omega) (by simp) w1 (Nat.le_refl _) ⟨by simp,fun h =>absurd h (by omega)⟩).mono ?_
 rintro e w2 ⟨rfl,ht2,hb2⟩
 obtain ⟨bt,hbt⟩:∃ bt,bt=w1.heap.size:=⟨_,rfl⟩
 rw [← hbt]
 have HST:Hid (CpSt w bt [] u1 (hd v) 0 (fun k =>w1.heap.size≤k∧k<w2.heap.size) w2):=by
  refine ⟨⟨0,Nat.le_refl _,?_⟩,fun k hk =>⟨Nat.le_trans HB1.out.size hk.1,hk.2⟩,?_,fun g hg hs =>?_,HB1.out.trans (hb2.mono HB1.out.size)⟩
  ·rw [hbt];exact ht2.wide (fun k h1 h2 =>⟨h1,h2⟩)
  ·rw [zBk];exact zAK HO1.out hb2
  ·have h1:=zAP HO1.out g hg
   omega
 clear ht2 hb2 hbt
 go_wp2
 go_loopw [6,24] (fun v6 v24 wr =>∃ (i:Nat) (va:Value) (S:Nat→Prop),va=v6∧i≤n∧v24=.int .i64 (i:Int)∧zAe vi (xs.take i)∧CpSt w bt (zAV vi [] (xs.take i)) va (hd v++frs (zAH vi [] (xs.take i))) (18 * i) S wr) (fun v6 v24 _ =>n - (intOf v24).toNat)
 case atStart =>exact ⟨0,_,_,rfl,Nat.zero_le _,rfl,(fun x hx =>by simp at hx),by simpa [zAH,frs,zAV] using HST.out⟩
 case round =>
  obtain ⟨i,va,S,rfl,hin,rfl,ham,hst⟩:=hrel
  have HAM:=yh ham
  have HST:=yh hst
  have hlf:=zGf ham (by rw [List.length_take];have:=HL.out;omega)
  have HLF:=yh hlf
  clear ham hst hlf
  by_cases hlt:i<n
  ·obtain ⟨x,hx⟩:∃ x,xs[i]? = some x:=⟨_,List.getElem?_eq_getElem (by rw [HL.out];exact hlt)⟩
   have hxm:=List.mem_of_getElem? hx
   obtain ⟨hfit,hnu,hxn⟩:=HOK.out x hxm
   obtain ⟨ad,rfl,_,c0,c1,c2,c3,c4,c5,c6⟩:=zBX (HR.out.below HST.out.b).1 i x hx
   have hrd0:=(HR.out.2 x hxm).1
   have HX:=yh hx
   have HFIT:=yh hfit
   have HNU:=yh hnu
   have hix0:(0:Int)≤(i:Int):=by omega
   have hix1:(i:Int)<(n:Int):=by omega
   have HI:Hid (i<n):=hlt
   obtain ⟨r,xA,xn,xc,l⟩:=x
   simp only at c0 c1 c2 c3 c4 c5 c6 HFIT HNU hxn hrd0
   have HRD0:=yh hrd0
   have hbx:=zAE wr (.cells #[.int .i64 r.kind,.string (tx r.target),.int .u64 r.rule,.slice xA xn xc,.int .u64 r.out,.int .u64 r.time,.string (tx r.tag)] 41)
   have p0:=zAA (i:=0) hbx rfl;have p1:=zAA (i:=1) hbx rfl;have p2:=zAA (i:=2) hbx rfl;have p3:=zAA (i:=3) hbx rfl;have p4:=zAA (i:=4) hbx rfl;have p5:=zAA (i:=5) hbx rfl;have p6:=zAA (i:=6) hbx rfl
   have hb4:=(Below.refl wr.heap.size wr).alloc (Nat.le_refl _) (.cells #[.int .i64 r.kind,.string (tx r.target),.int .u64 r.rule,.slice xA xn xc,.int .u64 r.out,.int .u64 r.time,.string (tx r.tag)] 41)
   obtain ⟨w4,hw4⟩:∃ w4,w4=wr.alloc (.cells #[.int .i64 r.kind,.string (tx r.target),.int .u64 r.rule,.slice xA xn xc,.int .u64 r.out,.int .u64 r.time,.string (tx r.tag)] 41):=⟨_,rfl⟩
   rw [← hw4] at hb4 hbx p0 p1 p2 p3 p4 p5 p6
   have HB4:=yh hb4
   have HBW4:=yh (HST.out.b.trans (hb4.mono HST.out.b.size))
   have HRD4:Hid (zAD w4 w4.heap.size 3 xA xn (dps l)):=(HRD0.out.below HBW4.out).more HBW4.out.size
   obtain ⟨N,hN,htab⟩:=HST.out.tab
   have HTAB4:Hid (Tab w4 S bt N (zAV vi [] (xs.take i))):=htab.keep (fun k _ hk =>hb4.block k hk)
   have HN:Hid (N≤18 * i):=hN
   have hN2:N≤18000:=by omega
   clear hx hxm hfit hnu hrd0 hbx hb4 hlt htab hN
   by_cases hm:MayP vi r l
   ·have HM:=yh hm
    have HPUT:=yh (zMt S bt N xn xc vi (zAV vi [] (xs.take i)) r xA l hm HFIT.out HNU.out (by have:=HLF.out.2.1;omega) (by omega) w4 HTAB4.out (fun ad2 e h0 hs =>by
      obtain ⟨ad3,e3,h3,_⟩:=HRD0.out.2 h0
      obtain rfl:ad2=ad3:=Option.some.inj (e.symm.trans e3)
      have:=(HST.out.lo _ hs).1
      omega) HRD4.out (fun W hW =>HLD.out.below (HBW4.out.trans (hW.below (fun k hk =>(HST.out.lo k hk).1) HBW4.out.size))))
    clear hm
    rw [hw4] at p0 p1 p2 p3 p4 p5 p6 HPUT
    go_wp2_with fail
    refine HPUT.out.mono ?_
    rintro e w5 ⟨v5,S5,rfl,ho5,hn5,ht5,hs5,htu5⟩
    rw [← hw4] at ho5 hs5 htu5
    obtain ⟨A5,c5x,rfl,hA5⟩:=zAL ho5
    have HB5:=yh (HBW4.out.trans (htu5.below (fun k hk =>(HST.out.lo k hk).1) HBW4.out.size))
    have HT5:=yh ht5
    have HR5:=yh (zAD.of_own ho5)
    have hob4:=zAK HST.out.own HB4.out
    have HOB:Hid (w5.ownsRow w.heap.size 5 1 va (hd v++frs (zAH vi [] (xs.take i))).length ((hd v++frs (zAH vi [] (xs.take i))).map bv)):=zAR hob4 (fun g hg =>htu5.2.2.2.2 g (zAP hob4 g hg) (HST.out.un g hg))
    have HUN:Hid (∀ g,va.ownBlock=some g→¬ S5 g):=fun g hg hs =>(hs5 g hs).2.elim (HST.out.un g hg) (fun h1 =>by have:=zAP hob4 g hg;omega)
    have HS5:Hid (∀ k,S5 k→w.heap.size≤k∧k<w5.heap.size):=fun k hk =>⟨(hs5 k hk).2.elim (fun h1 =>(HST.out.lo k h1).1) (fun h1 =>Nat.le_trans HBW4.out.size h1),(hs5 k hk).1⟩
    have hfile:=zFf (ver:=vi) HX.out
    have HFILE:=yh hfile
    have HAM2:=yh (HAM.out.snoc HX.out HM.out HNU.out)
    have hpl:=zEC _ (zFO HM.out HNU.out (by have:=HLF.out.2.1;omega:(zAV vi [] (xs.take i)).length≤1000000))
    have hpn:=zCr (tl:=zAV vi [] (xs.take i)) HM.out
    obtain ⟨F,hF⟩:∃ F,F=frs (payL vi (zAV vi [] (xs.take i)) r l):=⟨_,rfl⟩
    have hFl:F.length≤40000:=by rw [hF];omega
    rw [← hF] at HR5 HFILE ⊢
    have hbl:(hd v++frs (zAH vi [] (xs.take i))).length≤39200000:=by rw [List.length_append,zBk];have:=HLF.out.2.2.1;omega
    obtain ⟨B0,hB0⟩:∃ B0,B0=hd v++frs (zAH vi [] (xs.take i)):=⟨_,rfl⟩
    rw [← hB0] at HOB hbl
    have HB0:=yh hB0
    clear ho5 hn5 ht5 hs5 htu5 hob4 hfile hpl hpn hF hB0 HPUT p0 p1 p2 p3 p4 p5 p6 hw4
    go_wp2_with (at_builtin;refine zCe _ rfl (.tmp 38) (.tmp 39) 59 rfl w.heap.size 5 iu (.int .u8 0) 1 1 Tryz.underlying59 hi hi0 hi1 hi2 rfl (by decide) va B0.length (B0.map bv) rfl HOB.out A5 F.length c5x _ (F.map bv) rfl hA5 HR5.out (zCW _) (by unfold maxLen;omega) (by omega) HB5.out.size ?_;intro v6 w6 ho6 hg6 hv6)
    have hst6:CpSt w bt (zAV vi [] (xs.take (i+1))) v6 (hd v++frs (zAH vi [] (xs.take (i+1)))) (18 * (i+1)) S5 w6:=by
     refine ⟨⟨N+18,by have:=HN.out;omega,?_⟩,fun k hk =>⟨(HS5.out k hk).1,Nat.lt_of_lt_of_le (HS5.out k hk).2 hg6.size⟩,?_,fun g hg hs =>?_,HB5.out.grown hg6 HB5.out.size (zAG HOB.out)⟩
     ·rw [HFILE.out.2]
      exact HT5.out.keep (fun k hk hlt =>hg6.block k hlt (fun e =>HUN.out k (by rw [e]) hk))
     ·rw [HFILE.out.1,← List.append_assoc,← HB0.out,List.length_append,List.map_append]
      exact ho6
     ·rcases hv6 with h1 | h1
      ·exact HUN.out g (h1.symm.trans hg) hs
      ·have h2:=(HS5.out g hs).2
       have h3:w5.heap.size=g:=Option.some.inj (h1.symm.trans hg)
       omega
    have HST6:=yh hst6
    clear ho6 hg6 hv6 hst6
    (try go_wp2)
    exact ⟨⟨i+1,_,S5,rfl,by have:=HI.out;omega,rfl,HAM2.out,HST6.out⟩,by show n - (i+1)<n - i;have:=HI.out;omega⟩
   ·have HNA:Hid (¬ zAe vi xs):=fun h1 =>hm (h1 _ (List.mem_of_getElem? HX.out)).1
    have HPUT:=yh (zMs bt vi HV3.out r xA xn xc l hm hxn HFIT.out w4 HRD4.out)
    clear hm
    rw [hw4] at p0 p1 p2 p3 p4 p5 p6 HPUT
    go_wp2_with fail
    refine HPUT.out.mono ?_
    rintro e w5 ⟨rfl,hb⟩
    rw [← hw4] at hb
    have HB5:=yh (HBW4.out.trans (hb.mono HBW4.out.size))
    clear hb hw4
    go_wp2
    go_ret2
    exact ⟨.inr ⟨HNA.out,rfl⟩,HB5.out⟩
  ·obtain rfl:i=n:=by omega
   have HTK:Hid (xs.take i=xs):=List.take_of_length_le (by rw [HL.out];exact Nat.le_refl _)
   have HAX:Hid (zAe vi xs):=(by have h1:=HAM.out;rw [HTK.out] at h1;exact h1)
   have hown:=HST.out.own
   rw [HTK.out] at hown
   have HOWN:=yh hown
   clear hown
   go_wp2
   go_ret2
   exact ⟨.inl ⟨HAX.out,va,rfl,HOWN.out⟩,HST.out.b⟩
theorem zFD (r:Rc) (A:Option Addr) (n c:Nat) (l:List Dp) (w:World) (hn:n≤maxLen) (hfit:∀ d ∈ l,d.name.length≤maxLen) (ht:r.target.length≤maxLen) (hg:r.tag.length≤maxLen) (h:zAD w w.heap.size 3 A n (dps l)) :
  Calls Tryz.prog 23 #[rcv r A n c] w fun e w' =>zAz (¬ small r l) e∧Below w.heap.size w w':=by
 have HL:Hid (l.length=n):=by have:=h.1;rw [zAn] at this;show _=_;omega
 have H1:=yh h
 have HF:=yh hfit
 have hm:Hid (maxLen=9223372036854775807∨True):=.inr trivial
 have hbx:=yh ((Below.refl w.heap.size w).alloc (Nat.le_refl _) (.cells #[.int .i64 r.kind,.string (tx r.target),.int .u64 r.rule,.slice A n c,.int .u64 r.out,.int .u64 r.time,.string (tx r.tag)] 41))
 have hnb:Hid ((w.alloc (.cells #[.int .i64 r.kind,.string (tx r.target),.int .u64 r.rule,.slice A n c,.int .u64 r.out,.int .u64 r.time,.string (tx r.tag)] 41)).heap[w.heap.size]? = some (.cells #[.int .i64 r.kind,.string (tx r.target),.int .u64 r.rule,.slice A n c,.int .u64 r.out,.int .u64 r.time,.string (tx r.tag)] 41 (0,0))):=by show (w.heap.push _)[w.heap.size]? = _;exact Array.getElem?_push_size
 unfold rcv rsv
 have hs1:=zEQ r.target
 have hs2:=zEQ r.tag
 unfold maxLen at hn ht hg
 clear h hfit
 go_enter Tryz.func23,Tryz.ntmps23
 go_wp2
 go_loopw [8] (fun idx wr =>∃ i:Nat,i≤n∧idx=.int .i64 (i:Int)∧(∀ d ∈ l.take i,d.name.length≤300)∧Below w.heap.size w wr∧wr.heap[w.heap.size]? = some (.cells #[.int .i64 r.kind,.string (tx r.target),.int .u64 r.rule,.slice A n c,.int .u64 r.out,.int .u64 r.time,.string (tx r.tag)] 41 (0,0))) (fun idx wr =>n - (intOf idx).toNat)
 case atStart =>exact ⟨0,by omega,rfl,by simp,hbx.out,hnb.out⟩
 case round =>
  obtain ⟨i,hi,rfl,hsm,hb,hbl⟩:=hrel
  have HSM:=yh hsm
  have q1:=zAA (i:=1) hbl rfl
  have q3:=zAA (i:=3) hbl rfl
  have q6:=zAA (i:=6) hbl rfl
  clear hsm
  by_cases hlt:i<n
  ·obtain ⟨x,hx⟩:∃ x,l[i]? = some x:=⟨_,List.getElem?_eq_getElem (by rw [HL.out];exact hlt)⟩
   obtain ⟨ad,rfl,_,hcx⟩:=(H1.out.below hb).2 (by omega)
   obtain ⟨x0,x1,x2⟩:=zCl l i x hx
   have k0:=hcx _ _ x0
   have k1:=hcx _ _ x1
   have k2:=hcx _ _ x2
   rw [zDR] at k1
   rw [zDT] at k2
   have hxl:=HF.out x (List.mem_of_getElem? hx)
   obtain ⟨xn,xh,xo⟩:=x
   simp only at k0 k1 k2 hxl
   have hs3:=zEQ xn
   obtain ⟨m,hm⟩:∃ m,m=xn.length:=⟨_,rfl⟩
   rw [← hm] at hs3 hxl
   unfold rsv at k0
   unfold maxLen at hxl
   have HX:Hid (m≤300→∀ d ∈ l.take (i+1),d.name.length≤300):=fun hle d hd =>by
    rw [List.take_add_one,hx,List.mem_append] at hd
    rcases hd with hd | hd
    ·exact HSM.out d hd
    ·simp at hd;subst hd;exact hm▸hle
   have HNS:Hid (¬ m≤300→¬ small r l):=fun hle h =>hle (by rw [hm];exact h.1 ⟨xn,xh,xo⟩ (List.mem_of_getElem? hx))
   have HBR:=yh hb
   have HBL:=yh hbl
   have hi0:(0:Int)≤(i:Int):=by omega
   have hi1:(i:Int)<(n:Int):=by omega
   have HBN:=yh (hb.alloc hb.size (.cells #[.string (tx xn),.int .u64 xh,.bool xo] 95))
   have HBLN:=yh ((Below.heap_alloc wr (.cells #[.string (tx xn),.int .u64 xh,.bool xo] 95) w.heap.size (by
    rcases Nat.lt_or_ge w.heap.size wr.heap.size with h | h
    ·exact h
    ·rw [Array.getElem?_eq_none h] at hbl;cases hbl)).trans hbl)
   clear hcx x0 x1 x2 hx hb hbl hm
   by_cases h300:m≤300
   ·have hd1:decide ((m:Int) > 300)=false:=by rw [decide_eq_false_iff_not];omega
    go_wp2
    exact ⟨⟨i+1,by omega,by go_num,HX.out h300,HBN.out,HBLN.out⟩,by simp [intOf];omega⟩
   ·have hd1:decide ((m:Int) > 300)=true:=by rw [decide_eq_true_iff];omega
    have HN2:=yh (HNS.out h300)
    go_wp2
    go_ret
    exact ⟨zBY HN2.out,HBN.out⟩
  ·obtain rfl:i=n:=by omega
   have HBR:=yh hb
   rw [List.take_of_length_le (by rw [HL.out];omega)] at HSM
   clear hb hbl
   by_cases hA:i≤60∧r.target.length≤300∧r.tag.length≤300
   ·have HQ:Hid (small r l):=⟨HSM.out,by rw [HL.out];exact hA.1,hA.2⟩
    obtain ⟨g1,g2,g3⟩:=hA
    go_wp2
    go_ret
    exact ⟨by first | exact zAl (fun h =>h HQ.out) | (refine (show ∀ {b:Bool},b=false→zAz (¬ small r l) (.returned (.bool b)) from fun h =>h▸zAl (fun h =>h HQ.out)) ?_;simp;omega),HBR.out⟩
   ·have HNS:Hid (¬ small r l):=fun h =>hA ⟨by have:=h.2.1;rw [HL.out] at this;exact this,h.2.2⟩
    have END:Hid (∀ b:Bool,b=true→zAz (¬ small r l) (.returned (.bool b))):=fun b h =>h▸zBY HNS.out
    by_cases g1:i≤60
    ·by_cases g2:r.target.length≤300
     ·have g3:300<r.tag.length:=by omega
      clear hA
      go_wp2
      go_ret
      exact ⟨END.out _ (by first | rfl | (simp;omega)),HBR.out⟩
     ·clear hA
      go_wp2
      go_ret
      exact ⟨END.out _ (by first | rfl | (simp;omega)),HBR.out⟩
    ·clear hA
     go_wp2
     go_ret
     exact ⟨END.out _ (by first | rfl | (simp;omega)),HBR.out⟩
def zCm (xs:List Rw):Prop:=(∀ x ∈ xs,small x.r x.l)∧xs.length≤30
theorem zHO (A:Option Addr) (n c:Nat) (xs:List Rw) (hn:n≤maxLen) (hf:∀ x ∈ xs,Fits x.r x.l∧x.n≤maxLen) (w:World) (h:Recs w w.heap.size A n xs) :
  Calls Tryz.prog 15 #[.slice A n c] w fun e w' =>zAz (¬ zCm xs) e∧Below w.heap.size w w':=by
 have HL:Hid (xs.length=n):=h.len
 have H1:=yh h
 have HF:=yh hf
 unfold maxLen at hn
 clear h hf
 go_enter Tryz.func15,Tryz.ntmps15
 go_wp2
 go_loopw [7] (fun idx wr =>∃ i:Nat,i≤n∧idx=.int .i64 (i:Int)∧(∀ x ∈ xs.take i,small x.r x.l)∧Below w.heap.size w wr) (fun idx wr =>n - (intOf idx).toNat)
 case atStart =>exact ⟨0,by omega,rfl,by simp,Below.refl _ _⟩
 case round =>
  obtain ⟨i,hi,rfl,hsm,hb⟩:=hrel
  have HSM:=yh hsm
  have HBR:=yh hb
  clear hsm
  by_cases hlt:i<n
  ·obtain ⟨x,hx⟩:∃ x,xs[i]? = some x:=⟨_,List.getElem?_eq_getElem (by rw [HL.out];exact hlt)⟩
   have hm:=List.mem_of_getElem? hx
   obtain ⟨hfx,hnx⟩:=HF.out x hm
   have hrx:=(H1.out.2 x hm).1
   obtain ⟨ad,rfl,_,k0,k1,k2,k3,k4,k5,k6⟩:=zBX (H1.out.below hb).1 i x hx
   have HX:Hid (small x.r x.l→∀ y ∈ xs.take (i+1),small y.r y.l):=fun hs y hy =>by
    rw [List.take_add_one,hx,List.mem_append] at hy
    rcases hy with hy | hy
    ·exact HSM.out y hy
    ·simp at hy;subst hy;exact hs
   have HNO:Hid (¬ small x.r x.l→¬ zCm xs):=fun hs h =>hs (h.1 x hm)
   obtain ⟨⟨k,t,u,o,m,g⟩,A4,n4,c4,l4⟩:=x
   simp only at k0 k1 k2 k3 k4 k5 k6 hfx hnx hrx
   have HRX:=yh hrx
   have HFX:=yh hfx
   have HNX:=yh hnx
   have hi0:(0:Int)≤(i:Int):=by omega
   have hi1:(i:Int)<(n:Int):=by omega
   have HB2:=yh (hb.alloc hb.size (.cells #[.int .i64 k,.string (tx t),.int .u64 u,.slice A4 n4 c4,.int .u64 o,.int .u64 m,.string (tx g)] 41))
   have HS2:Hid (wr.heap.size≤(wr.alloc (.cells #[.int .i64 k,.string (tx t),.int .u64 u,.slice A4 n4 c4,.int .u64 o,.int .u64 m,.string (tx g)] 41)).heap.size):=by show _≤_;simp
   clear hx hm hfx hnx hrx hb
   by_cases hs:small ⟨k,t,u,o,m,g⟩ l4
   ·have HS:=yh hs
    go_wp2_with (go_at_call 23;refine (zFD ⟨k,t,u,o,m,g⟩ A4 n4 c4 l4 _ HNX.out HFX.out.2.2 HFX.out.1 HFX.out.2.1 ((HRX.out.below HB2.out).more HB2.out.size)).mono ?_;rintro e w3 ⟨he,hb3⟩;obtain rfl:=he.no (fun h =>h HS.out);have HB3:=yh (HB2.out.trans (hb3.mono HB2.out.size));clear hb3)
    exact ⟨⟨i+1,by omega,by go_num,HX.out HS.out,HB3.out⟩,by simp [intOf];omega⟩
   ·have HS:=yh hs
    go_wp2_with (go_at_call 23;refine (zFD ⟨k,t,u,o,m,g⟩ A4 n4 c4 l4 _ HNX.out HFX.out.2.2 HFX.out.1 HFX.out.2.1 ((HRX.out.below HB2.out).more HB2.out.size)).mono ?_;rintro e w3 ⟨he,hb3⟩;obtain rfl:=he.yes HS.out;have HB3:=yh (HB2.out.trans (hb3.mono HB2.out.size));clear hb3)
    go_ret
    exact ⟨zBY (HNO.out HS.out),HB3.out⟩
  ·obtain rfl:i=n:=by omega
   rw [List.take_of_length_le (by rw [HL.out];omega)] at HSM
   clear hb
   by_cases h30:i≤30
   ·have HQ:Hid (zCm xs):=⟨HSM.out,by rw [HL.out];exact h30⟩
    go_wp2
    go_ret
    exact ⟨by first | exact zAl (fun h =>h HQ.out) | (refine (show ∀ {b:Bool},b=false→zAz (¬ zCm xs) (.returned (.bool b)) from fun h =>h▸zAl (fun h =>h HQ.out)) ?_;simp;omega),HBR.out⟩
   ·have HQ:Hid (¬ zCm xs):=fun h =>h30 (by have:=h.2;rw [HL.out] at this;exact this)
    have END:Hid (∀ b:Bool,b=true→zAz (¬ zCm xs) (.returned (.bool b))):=fun b h =>h▸zBY HQ.out
    go_wp2
    go_ret
    exact ⟨END.out _ (by first | rfl | (simp;omega)),HBR.out⟩
theorem zNx {x y:Rw}:x.say=y.say ↔ x.r=y.r∧x.l=y.l:=by
 unfold Rw.say
 exact Prod.mk.injEq .. ▸ Iff.rfl
theorem zJm (A B:Option Addr) (n m c d:Nat) (xs ys:List Rw) (hn:n≤maxLen) (hm:m≤maxLen) (hs:∀ x ∈ xs,x.n≤1000000) (w:World) (h1:Recs w w.heap.size A n xs) (h2:Recs w w.heap.size B m ys) :
  Calls Tryz.prog 21 #[.slice A n c,.slice B m d] w fun e w' =>zAz (xs.map Rw.say=ys.map Rw.say) e∧Below w.heap.size w w':=by
 have HL1:Hid (xs.length=n):=h1.len
 have HL2:Hid (ys.length=m):=h2.len
 have H1:=yh h1
 have H2:=yh h2
 have HS:=yh hs
 unfold maxLen at hn hm
 clear h1 h2 hs
 by_cases hnm:n=m
 ·subst hnm
  have hd0:decide ((n:Int)=(n:Int))=true:=by simp
  have hd1:((n:Int) != (n:Int))=false:=by simp
  go_enter Tryz.func21,Tryz.ntmps21
  go_wp2
  go_loopw [5] (fun idx wr =>∃ i:Nat,i≤n∧idx=.int .i64 (i:Int)∧(xs.take i).map Rw.say=(ys.take i).map Rw.say∧Below w.heap.size w wr) (fun idx wr =>n - (intOf idx).toNat)
  case atStart =>exact ⟨0,by omega,rfl,by simp,Below.refl _ _⟩
  case round =>
   obtain ⟨i,hi,rfl,htk,hb⟩:=hrel
   have HTK:=yh htk
   have HBR:=yh hb
   clear htk
   by_cases hlt:i<n
   ·obtain ⟨x,hx⟩:∃ x,xs[i]? = some x:=⟨_,List.getElem?_eq_getElem (by rw [HL1.out];exact hlt)⟩
    obtain ⟨y,hy⟩:∃ y,ys[i]? = some y:=⟨_,List.getElem?_eq_getElem (by rw [HL2.out];exact hlt)⟩
    have hmx:=List.mem_of_getElem? hx
    have hmy:=List.mem_of_getElem? hy
    have hnx:=HS.out x hmx
    have hrx:=(H1.out.2 x hmx).1
    have hry:=(H2.out.2 y hmy).1
    obtain ⟨ad,rfl,hab,k0,k1,k2,k3,k4,k5,k6⟩:=zBX (H1.out.below hb).1 i x hx
    obtain ⟨ad',rfl,hab',j0,j1,j2,j3,j4,j5,j6⟩:=zBX (H2.out.below hb).1 i y hy
    have HX:Hid (x.r=y.r∧x.l=y.l→(xs.take (i+1)).map Rw.say=(ys.take (i+1)).map Rw.say):=fun he =>by
     rw [List.take_add_one,List.take_add_one,hx,hy,List.map_append,List.map_append,HTK.out]
     simp [zNx.2 he]
    have HNO:Hid (¬ (x.r=y.r∧x.l=y.l)→¬ xs.map Rw.say=ys.map Rw.say):=fun he h =>he (zNx.1 (by
     have e:=congrArg (fun l:List (Rc×List Dp) =>l[i]?) h
     simp only [List.getElem?_map,hx,hy,Option.map_some] at e
     exact Option.some.inj e))
    obtain ⟨⟨k,t,u,o,m,g⟩,A4,n4,c4,l4⟩:=x
    obtain ⟨⟨kb,tb,ub,ob,mb,gb⟩,B4,m4,d4,l5⟩:=y
    simp only at k0 k1 k2 k3 k4 k5 k6 j0 j1 j2 j3 j4 j5 j6 hnx hrx hry
    have HRX:=yh hrx
    have HRY:=yh hry
    have HNX:=yh hnx
    have hi0:(0:Int)≤(i:Int):=by omega
    have hi1:(i:Int)<(n:Int):=by omega
    clear hx hy hmx hmy hnx hrx hry hb
    go_wp2_with fail
    by_cases he:(⟨k,t,u,o,m,g⟩:Rc)=⟨kb,tb,ub,ob,mb,gb⟩∧l4=l5
    ·have HE:=yh he
     clear he
     refine wp_region_held (S:=fun v =>Below wr.heap.size wr v) (by kernel_rfl) ?_
     have hS:Below wr.heap.size wr wr.drew:=(Below.refl _ wr).drew
     refine zAB 0 (.slice (some ad) n c) rfl (by kernel_rfl) (by kernel_rfl) (by kernel_rfl) (fun _ _ _ h =>h) (by kernel_rfl) hS (fun _ _ =>by kernel_rfl) ?_
     refine zAB 1 (.int .i64 (i:Int)) rfl (by kernel_rfl) (by kernel_rfl) (by kernel_rfl) (fun _ _ _ h =>h) (by kernel_rfl) hS (fun _ _ =>by kernel_rfl) ?_
     refine zAB 2 (.pointer (some (ad.add (i * 7)))) rfl (by kernel_rfl) (by kernel_rfl) (by kernel_rfl) (fun _ _ _ h =>h) (by kernel_rfl) hS (by intro v hv;go_simp) ?_
     refine zAB 3 (.agg #[.int .i64 k,.string (tx t),.int .u64 u,.slice A4 n4 c4,.int .u64 o,.int .u64 m,.string (tx g)]) rfl (by kernel_rfl) (by kernel_rfl) (by kernel_rfl) (fun _ _ _ h =>h) (by kernel_rfl) hS (by intro v hv;have q0:=(hv.cell (p:=ad.add (i * 7)) (show (ad.add (i * 7)).block<_ by rw [zAQ];have h1:=HBR.out.size;omega)).trans k0;have q1:=(hv.cell (p:=⟨(ad.add (i * 7)).block,(ad.add (i * 7)).off+1,none⟩) (show (ad.add (i * 7)).block<_ by rw [zAQ];have h1:=HBR.out.size;omega)).trans k1;have q2:=(hv.cell (p:=⟨(ad.add (i * 7)).block,(ad.add (i * 7)).off+2,none⟩) (show (ad.add (i * 7)).block<_ by rw [zAQ];have h1:=HBR.out.size;omega)).trans k2;have q3:=(hv.cell (p:=⟨(ad.add (i * 7)).block,(ad.add (i * 7)).off+3,none⟩) (show (ad.add (i * 7)).block<_ by rw [zAQ];have h1:=HBR.out.size;omega)).trans k3;have q4:=(hv.cell (p:=⟨(ad.add (i * 7)).block,(ad.add (i * 7)).off+4,none⟩) (show (ad.add (i * 7)).block<_ by rw [zAQ];have h1:=HBR.out.size;omega)).trans k4;have q5:=(hv.cell (p:=⟨(ad.add (i * 7)).block,(ad.add (i * 7)).off+5,none⟩) (show (ad.add (i * 7)).block<_ by rw [zAQ];have h1:=HBR.out.size;omega)).trans k5;have q6:=(hv.cell (p:=⟨(ad.add (i * 7)).block,(ad.add (i * 7)).off+6,none⟩) (show (ad.add (i * 7)).block<_ by rw [zAQ];have h1:=HBR.out.size;omega)).trans k6;go_simp;try rfl) ?_
     refine zAB 4 (.slice (some ad') n d) rfl (by kernel_rfl) (by kernel_rfl) (by kernel_rfl) (fun _ _ _ h =>h) (by kernel_rfl) hS (fun _ _ =>by kernel_rfl) ?_
     refine zAB 5 (.int .i64 (i:Int)) rfl (by kernel_rfl) (by kernel_rfl) (by kernel_rfl) (fun _ _ _ h =>h) (by kernel_rfl) hS (fun _ _ =>by kernel_rfl) ?_
     refine zAB 6 (.pointer (some (ad'.add (i * 7)))) rfl (by kernel_rfl) (by kernel_rfl) (by kernel_rfl) (fun _ _ _ h =>h) (by kernel_rfl) hS (by intro v hv;go_simp) ?_
     refine zAB 7 (.agg #[.int .i64 kb,.string (tx tb),.int .u64 ub,.slice B4 m4 d4,.int .u64 ob,.int .u64 mb,.string (tx gb)]) rfl (by kernel_rfl) (by kernel_rfl) (by kernel_rfl) (fun _ _ _ h =>h) (by kernel_rfl) hS (by intro v hv;have q0:=(hv.cell (p:=ad'.add (i * 7)) (show (ad'.add (i * 7)).block<_ by rw [zAQ];have h1:=HBR.out.size;omega)).trans j0;have q1:=(hv.cell (p:=⟨(ad'.add (i * 7)).block,(ad'.add (i * 7)).off+1,none⟩) (show (ad'.add (i * 7)).block<_ by rw [zAQ];have h1:=HBR.out.size;omega)).trans j1;have q2:=(hv.cell (p:=⟨(ad'.add (i * 7)).block,(ad'.add (i * 7)).off+2,none⟩) (show (ad'.add (i * 7)).block<_ by rw [zAQ];have h1:=HBR.out.size;omega)).trans j2;have q3:=(hv.cell (p:=⟨(ad'.add (i * 7)).block,(ad'.add (i * 7)).off+3,none⟩) (show (ad'.add (i * 7)).block<_ by rw [zAQ];have h1:=HBR.out.size;omega)).trans j3;have q4:=(hv.cell (p:=⟨(ad'.add (i * 7)).block,(ad'.add (i * 7)).off+4,none⟩) (show (ad'.add (i * 7)).block<_ by rw [zAQ];have h1:=HBR.out.size;omega)).trans j4;have q5:=(hv.cell (p:=⟨(ad'.add (i * 7)).block,(ad'.add (i * 7)).off+5,none⟩) (show (ad'.add (i * 7)).block<_ by rw [zAQ];have h1:=HBR.out.size;omega)).trans j5;have q6:=(hv.cell (p:=⟨(ad'.add (i * 7)).block,(ad'.add (i * 7)).off+6,none⟩) (show (ad'.add (i * 7)).block<_ by rw [zAQ];have h1:=HBR.out.size;omega)).trans j6;go_simp;try rfl) ?_
     refine zAO 8 rfl (by kernel_rfl) (by kernel_rfl) (fun K hK =>?_)
     go_simp
     refine (zIh ⟨k,t,u,o,m,g⟩ ⟨kb,tb,ub,ob,mb,gb⟩ A4 B4 n4 m4 c4 d4 l4 l5 HNX.out _ ((HRX.out.below HBR.out.drew).more HBR.out.drew.size) ((HRY.out.below HBR.out.drew).more HBR.out.drew.size)).mono ?_
     rintro e w3 ⟨q,hq,rfl,hb3⟩
     obtain rfl:q=true:=hq.2 HE.out
     have HB3:=yh (HBR.out.drew.trans (hb3.mono HBR.out.drew.size))
     have hS3:Below wr.heap.size wr w3:=hS.trans (hb3.mono hS.size)
     clear hb3 hq
     refine hK _ _ hS3 ?_
     clear hK K
     refine zAB 9 (.bool false) rfl (by kernel_rfl) (by kernel_rfl) (by kernel_rfl) (fun _ _ _ h =>h) (by kernel_rfl) hS3 (by intro v hv;go_simp) ?_
     refine wpAnyH_done (by kernel_rfl) ?_ _
     go_simp
     go_wp2
     exact ⟨⟨i+1,by omega,by go_num,HX.out HE.out,HB3.out⟩,by simp [intOf];omega⟩
    ·have HE:=yh he
     clear he
     refine wp_region_held (S:=fun v =>Below wr.heap.size wr v) (by kernel_rfl) ?_
     have hS:Below wr.heap.size wr wr.drew:=(Below.refl _ wr).drew
     refine zAB 0 (.slice (some ad) n c) rfl (by kernel_rfl) (by kernel_rfl) (by kernel_rfl) (fun _ _ _ h =>h) (by kernel_rfl) hS (fun _ _ =>by kernel_rfl) ?_
     refine zAB 1 (.int .i64 (i:Int)) rfl (by kernel_rfl) (by kernel_rfl) (by kernel_rfl) (fun _ _ _ h =>h) (by kernel_rfl) hS (fun _ _ =>by kernel_rfl) ?_
     refine zAB 2 (.pointer (some (ad.add (i * 7)))) rfl (by kernel_rfl) (by kernel_rfl) (by kernel_rfl) (fun _ _ _ h =>h) (by kernel_rfl) hS (by intro v hv;go_simp) ?_
     refine zAB 3 (.agg #[.int .i64 k,.string (tx t),.int .u64 u,.slice A4 n4 c4,.int .u64 o,.int .u64 m,.string (tx g)]) rfl (by kernel_rfl) (by kernel_rfl) (by kernel_rfl) (fun _ _ _ h =>h) (by kernel_rfl) hS (by intro v hv;have q0:=(hv.cell (p:=ad.add (i * 7)) (show (ad.add (i * 7)).block<_ by rw [zAQ];have h1:=HBR.out.size;omega)).trans k0;have q1:=(hv.cell (p:=⟨(ad.add (i * 7)).block,(ad.add (i * 7)).off+1,none⟩) (show (ad.add (i * 7)).block<_ by rw [zAQ];have h1:=HBR.out.size;omega)).trans k1;have q2:=(hv.cell (p:=⟨(ad.add (i * 7)).block,(ad.add (i * 7)).off+2,none⟩) (show (ad.add (i * 7)).block<_ by rw [zAQ];have h1:=HBR.out.size;omega)).trans k2;have q3:=(hv.cell (p:=⟨(ad.add (i * 7)).block,(ad.add (i * 7)).off+3,none⟩) (show (ad.add (i * 7)).block<_ by rw [zAQ];have h1:=HBR.out.size;omega)).trans k3;have q4:=(hv.cell (p:=⟨(ad.add (i * 7)).block,(ad.add (i * 7)).off+4,none⟩) (show (ad.add (i * 7)).block<_ by rw [zAQ];have h1:=HBR.out.size;omega)).trans k4;have q5:=(hv.cell (p:=⟨(ad.add (i * 7)).block,(ad.add (i * 7)).off+5,none⟩) (show (ad.add (i * 7)).block<_ by rw [zAQ];have h1:=HBR.out.size;omega)).trans k5;have q6:=(hv.cell (p:=⟨(ad.add (i * 7)).block,(ad.add (i * 7)).off+6,none⟩) (show (ad.add (i * 7)).block<_ by rw [zAQ];have h1:=HBR.out.size;omega)).trans k6;go_simp;try rfl) ?_
     refine zAB 4 (.slice (some ad') n d) rfl (by kernel_rfl) (by kernel_rfl) (by kernel_rfl) (fun _ _ _ h =>h) (by kernel_rfl) hS (fun _ _ =>by kernel_rfl) ?_
     refine zAB 5 (.int .i64 (i:Int)) rfl (by kernel_rfl) (by kernel_rfl) (by kernel_rfl) (fun _ _ _ h =>h) (by kernel_rfl) hS (fun _ _ =>by kernel_rfl) ?_
     refine zAB 6 (.pointer (some (ad'.add (i * 7)))) rfl (by kernel_rfl) (by kernel_rfl) (by kernel_rfl) (fun _ _ _ h =>h) (by kernel_rfl) hS (by intro v hv;go_simp) ?_
     refine zAB 7 (.agg #[.int .i64 kb,.string (tx tb),.int .u64 ub,.slice B4 m4 d4,.int .u64 ob,.int .u64 mb,.string (tx gb)]) rfl (by kernel_rfl) (by kernel_rfl) (by kernel_rfl) (fun _ _ _ h =>h) (by kernel_rfl) hS (by intro v hv;have q0:=(hv.cell (p:=ad'.add (i * 7)) (show (ad'.add (i * 7)).block<_ by rw [zAQ];have h1:=HBR.out.size;omega)).trans j0;have q1:=(hv.cell (p:=⟨(ad'.add (i * 7)).block,(ad'.add (i * 7)).off+1,none⟩) (show (ad'.add (i * 7)).block<_ by rw [zAQ];have h1:=HBR.out.size;omega)).trans j1;have q2:=(hv.cell (p:=⟨(ad'.add (i * 7)).block,(ad'.add (i * 7)).off+2,none⟩) (show (ad'.add (i * 7)).block<_ by rw [zAQ];have h1:=HBR.out.size;omega)).trans j2;have q3:=(hv.cell (p:=⟨(ad'.add (i * 7)).block,(ad'.add (i * 7)).off+3,none⟩) (show (ad'.add (i * 7)).block<_ by rw [zAQ];have h1:=HBR.out.size;omega)).trans j3;have q4:=(hv.cell (p:=⟨(ad'.add (i * 7)).block,(ad'.add (i * 7)).off+4,none⟩) (show (ad'.add (i * 7)).block<_ by rw [zAQ];have h1:=HBR.out.size;omega)).trans j4;have q5:=(hv.cell (p:=⟨(ad'.add (i * 7)).block,(ad'.add (i * 7)).off+5,none⟩) (show (ad'.add (i * 7)).block<_ by rw [zAQ];have h1:=HBR.out.size;omega)).trans j5;have q6:=(hv.cell (p:=⟨(ad'.add (i * 7)).block,(ad'.add (i * 7)).off+6,none⟩) (show (ad'.add (i * 7)).block<_ by rw [zAQ];have h1:=HBR.out.size;omega)).trans j6;go_simp;try rfl) ?_
     refine zAO 8 rfl (by kernel_rfl) (by kernel_rfl) (fun K hK =>?_)
     go_simp
     refine (zIh ⟨k,t,u,o,m,g⟩ ⟨kb,tb,ub,ob,mb,gb⟩ A4 B4 n4 m4 c4 d4 l4 l5 HNX.out _ ((HRX.out.below HBR.out.drew).more HBR.out.drew.size) ((HRY.out.below HBR.out.drew).more HBR.out.drew.size)).mono ?_
     rintro e w3 ⟨q,hq,rfl,hb3⟩
     obtain rfl:q=false:=by rw [← Bool.not_eq_true,hq];exact HE.out
     have HB3:=yh (HBR.out.drew.trans (hb3.mono HBR.out.drew.size))
     have hS3:Below wr.heap.size wr w3:=hS.trans (hb3.mono hS.size)
     clear hb3 hq
     refine hK _ _ hS3 ?_
     clear hK K
     refine zAB 9 (.bool true) rfl (by kernel_rfl) (by kernel_rfl) (by kernel_rfl) (fun _ _ _ h =>h) (by kernel_rfl) hS3 (by intro v hv;go_simp) ?_
     refine wpAnyH_done (by kernel_rfl) ?_ _
     go_simp
     go_wp2
     go_ret
     exact ⟨zAl (HNO.out HE.out),HB3.out⟩
   ·obtain rfl:i=n:=by omega
    have htk:=HTK.out
    rw [List.take_of_length_le (by rw [HL1.out];omega),List.take_of_length_le (by rw [HL2.out];omega)] at htk
    have HTK2:=yh htk
    clear htk hb
    go_wp2
    go_ret
    exact ⟨zBY HTK2.out,HBR.out⟩
 ·have hd0:decide ((n:Int)=(m:Int))=false:=decide_eq_false (by omega)
  have hd1:((n:Int) != (m:Int))=true:=by rw [bne_iff_ne];omega
  have HNE:Hid (¬ xs.map Rw.say=ys.map Rw.say):=fun h =>hnm (by have:=congrArg List.length h;simpa [HL1.out,HL2.out] using this)
  go_enter Tryz.func21,Tryz.ntmps21
  go_wp2
  go_ret
  exact ⟨zAl HNE.out,Below.refl _ _⟩
end Go.Proofs.YtekchkfjgofnkaaGreatDoor
