/- Texts of one proof. -/
import Derived.Test.YtgoklhoaedceaaaGreatDoorMx26
set_option maxRecDepth 100000
set_option maxHeartbeats 8000000
namespace Go.Proofs.YtgoklhoaedceaaaGreatDoor
open Go.RowKit
theorem zGx {T:List UInt8} {X:List Rw} (h:zAV T X) (hX:X.length≤30) (w:World) (hl:Laid w) (hp:zAl w) (he:zAx w) (hsh:w.ShapedOpen Tryz.prog) :
  Calls Tryz.prog 8 #[.string (tx T)] w fun e w' =>∃ A n c zs,zAV T zs∧e=.returned (.tuple #[.slice A n c,.int .i64 0])∧TrI w w' (.slice A n c) zs:=by
 refine (zDX T (by have:=(h.short hX).1;omega) (h.lines hX) w hl hp he hsh).mono ?_
 rintro e w' (⟨A,n,c,zs,hz,he,ht⟩ | ⟨hno,_⟩)
 ·exact ⟨A,n,c,zs,hz,he,ht⟩
 ·exact absurd h (hno X)
theorem zIj {T:List UInt8} {X:List Rw} (h:zAV T X) (hX:X.length≤30) (k:Nat) (hk:k<T.length) (w:World) (hl:Laid w) (hp:zAl w) (he:zAx w) (hsh:w.ShapedOpen Tryz.prog) :
  Calls Tryz.prog 8 #[.string (tx (T.take k))] w fun e w' =>e=.returned (.tuple #[.slice none 0 0,.int .i64 3])∧Below w.heap.size w w':=by
 have h3:=zKe h k hk
 refine (zDX (T.take k) (by have:=(h.short hX).1;rw [List.length_take];omega) (fun _ _ _ h0 =>by rw [h3] at h0;cases h0) w hl hp he hsh).mono ?_
 rintro e w' (⟨A,n,c,zs,hz,_⟩ | ⟨_,he,hb⟩)
 ·exact absurd hz (zBl (by rw [h3];decide) zs)
 ·rw [h3] at he
  exact ⟨he,hb⟩
theorem zHp (A:Option Addr) (n c:Nat) (xs:List Rw) (hn:n≤maxLen) (hf:∀ x ∈ xs,(Fits x.r x.l∧x.n≤maxLen)∧Nums x.r x.l) (a:Nat) (ha:a<65536) (w:World) (hl:Laid w) (hp:zAl w) (he:zAx w) (hsh:w.ShapedOpen Tryz.prog) (h:Recs w w.heap.size A n xs) :
  Calls Tryz.prog 6 #[.slice A n c,.int .u16 (a:Int)] w fun e w' =>e=.returned (.bool true)∧Below w.heap.size w w':=by
 have HGX:=yh (zHo A n c xs hn (fun x hx =>(hf x hx).1) w h)
 have HF:=yh (fun (W:World) (hW:Below w.heap.size w W) =>zCV W (hl.below hW) (hp.below hW) (zAW hsh hW))
 by_cases gx:zCm xs
 ·have GX:=yh gx
  have gdx:∀ x ∈ xs,zBA x:=fun x hx =>⟨(hf x hx).1.1,(hf x hx).2,gx.1 x hx⟩
  have hn30:n≤30:=by rw [← h.len];exact gx.2
  have HOFX:=yh (fun (W:World) (hb:Below w.heap.size w W) =>zKu A n c xs (by omega) (fun x hx =>(hf x hx).1.1.1) W ((h.below hb).more hb.size))
  have hX:∀ x ∈ fo Rw.k Rw.t xs,zBA x:=fun x hx =>gdx x (zGF hx).1
  have lX:(fo Rw.k Rw.t xs).length≤30:=Nat.le_trans (zIY xs) gx.2
  have nX:∀ x ∈ fo Rw.k Rw.t xs,x.n≤1000000:=fun x hx =>by
   have hx2:=(zGF hx).1
   have h1:=(gx.1 x hx2).2.1
   have h2:=(h.2 x hx2).1.1
   rw [zAd] at h2
   omega
  obtain ⟨X,eX⟩:∃ X,X=fo Rw.k Rw.t xs:=⟨_,rfl⟩
  rw [← eX] at HOFX hX lX nX
  obtain ⟨m1,hm1⟩:∃ m1,m1=X.length:=⟨_,rfl⟩
  have HDX:=yh (fun (B:Option Addr) (d:Nat) (W:World) (hb:Below w.heap.size w W) (hr:Recs W W.heap.size B m1 X) =>zCN B m1 d X (by omega) hX W (hl.below hb) (hp.below hb) hr)
  rw [← hm1] at HOFX
  have HM1:Hid (m1≤maxLen):=by show _≤_;unfold maxLen;omega
  have HXN:=yh nX
  have HXG:=yh hX
  have HXL:=yh lX
  have HW1:=yh (fun (T:List UInt8) (hT:zAV T X) (W:World) (hW:Below w.heap.size w W) =>zGx hT lX W (hl.below hW) (hp.below hW) (he.below hW) (zAW hsh hW))
  have HW2:=yh (fun (T:List UInt8) (hT:zAV T X) (k:Nat) (hk:k<T.length) (W:World) (hW:Below w.heap.size w W) =>zIj hT lX k hk W (hl.below hW) (hp.below hW) (he.below hW) (zAW hsh hW))
  clear gdx hf h hl hp gx hX lX nX eX hm1 he hsh
  go_enter Tryz.func6,Tryz.ntmps6
  go_wp2_with fail
  refine HGX.out.mono ?_
  rintro e w1 ⟨he,hb1⟩
  obtain rfl:=he.no (fun h =>h GX.out)
  have HB1:=yh hb1
  clear hb1 he
  go_wp2_with fail
  refine (HOFX.out _ HB1.out).mono ?_
  rintro e w3 ⟨A3,c3,rfl,hrc3,hb3⟩
  have HB3:=yh (HB1.out.trans (hb3.mono HB1.out.size))
  have HRC3:=yh hrc3
  clear hrc3 hb3
  go_wp2_with fail
  refine (HDX.out A3 c3 w3 HB3.out HRC3.out).mono ?_
  rintro e w5 ⟨he,hb5⟩
  have HB5:=yh (HB3.out.trans (hb5.mono HB3.out.size))
  have HRC5:=yh ((HRC3.out.below hb5).more hb5.size)
  clear hb5
  rcases he with ⟨hok,rfl⟩ | ⟨hok,rfl⟩
  ·have hT:zAV (zAP (txt X)) X:=⟨HXG.out,hok,rfl⟩
   obtain ⟨T,eT⟩:∃ T,T=zAP (txt X):=⟨_,rfl⟩
   rw [← eT] at hT ⊢
   have HT:=yh hT
   obtain ⟨q,hq⟩:∃ q,q=T.length:=⟨_,rfl⟩
   have HQ:=yh (hT.short HXL.out)
   have hq0:22≤q:=by rw [hq];exact HQ.out.2
   have hq1:q≤200000:=by rw [hq];exact HQ.out.1
   have hsz:(tx T).size=q:=by rw [zAK,hq]
   obtain ⟨k,hk⟩:∃ k,k=a % q:=⟨_,rfl⟩
   have hkq:k<q:=by rw [hk];exact Nat.mod_lt _ (by omega)
   have hrem:Int.tmod (a:Int) (q:Int)=(k:Int):=by rw [hk];rfl
   have hsl:∀ W,(Instr.slice 9 (.string (tx T)) none (some (.int .i64 (k:Int))) none).run Tryz.prog W=.ok (.string (tx (T.take k))) W:=fun W =>by
    have h1:=run_slice_string_to_if (P:=Tryz.prog) W 9 (tx T) .i64 (k:Int) Tryz.underlying9
    rw [if_pos (by rw [hsz];omega),Int.toNat_natCast,zAv] at h1
    simpa using h1
   have HQL:=yh hq
   have HL1:=yh (HW1.out T hT)
   have HL2:=yh (HW2.out T hT k (by omega))
   clear hT eT hok hk hq
   generalize tx (T.take k)=S2 at *
   generalize tx T=S at *
   go_wp2_with fail
   refine (HL1.out _ HB5.out).mono ?_
   rintro e w6 ⟨A6,n6,c6,zs,hz,rfl,hti⟩
   have HZ:=yh hz
   have HTI:=yh hti
   have HB6:=yh (HB5.out.trans (hti.2.2.mono HB5.out.size))
   have HRC6:=yh ((HRC5.out.below hti.2.2).more hti.2.2.size)
   clear hz hti
   go_wp2_with fail
   refine (HL2.out _ HB6.out).mono ?_
   rintro e w7 ⟨rfl,hb7⟩
   have HB7:=yh (HB6.out.trans (hb7.mono HB6.out.size))
   have HT7:=yh (HTI.out.below hb7)
   have HRC7:=yh ((HRC6.out.below hb7).more hb7.size)
   clear hb7
   go_wp2_with fail
   refine (HF.out _ HB7.out).mono ?_
   rintro e w8 ⟨rfl,hb8⟩
   have HB8:=yh (HB7.out.trans (hb8.mono HB7.out.size))
   have HT8:=yh (HT7.out.below hb8)
   have HRC8:=yh ((HRC7.out.below hb8).more hb8.size)
   clear hb8
   have HAL:=yh (zCK A6 A3 n6 m1 c6 c3 zs X (by have h1:=HT8.out.recs.len;have h2:zs.length=X.length:=(by simpa using congrArg List.length (HZ.out.one HT.out));have:=HXL.out;unfold maxLen;omega) HM1.out (fun x hx =>zEQ (HT8.out.recs.2 x hx).1 (HZ.out.1 x hx)) w8 HT8.out.recs HRC8.out)
   go_wp2_with fail
   refine HAL.out.mono ?_
   rintro e w9 ⟨he,hb9⟩
   obtain rfl:=he.yes (HZ.out.one HT.out)
   have HB9:=yh (HB8.out.trans (hb9.mono HB8.out.size))
   clear he hb9
   go_wp2
   go_ret
   exact ⟨rfl,HB9.out⟩
  ·clear hok
   go_wp2_with fail
   refine (HF.out _ HB5.out).mono ?_
   rintro e w8 ⟨rfl,hb8⟩
   have HB8:=yh (HB5.out.trans (hb8.mono HB5.out.size))
   clear hb8
   go_wp2
   go_ret
   exact ⟨rfl,HB8.out⟩
 ·have GX:=yh gx
  clear hf h hl hp gx he hsh
  go_enter Tryz.func6,Tryz.ntmps6
  go_wp2_with fail
  refine HGX.out.mono ?_
  rintro e w1 ⟨he,hb1⟩
  obtain rfl:=he.yes GX.out
  have HB1:=yh hb1
  clear hb1 he
  go_wp2_with fail
  refine (HF.out _ HB1.out).mono ?_
  rintro e w20 ⟨rfl,hb20⟩
  have HB20:=yh (HB1.out.trans (hb20.mono HB1.out.size))
  clear hb20
  go_wp2
  go_ret
  exact ⟨rfl,HB20.out⟩
open Go.ChangeShapes Go.WideShapes Go.ChangeAt Go.RowKit Go.Deep
theorem zHw {H:Type} {enc:TypeId×Value→H} {W:World} {v:Value} {d:DataW H} {ps:List MemPlace} {r0:Reach} {b0:Nat} (hval:Value.okWide Tryz.prog W r0 b0 23 v) (hd:DataW.Trod enc Tryz.prog W 0 (fun _ =>true) true 23 v d ps) :
  ∃ (A:Option Addr) (n c:Nat) (xs:List Rw),v=.slice A n c∧n≤maxLen∧(A=none→c=0)∧(∀ x ∈ xs,(Fits x.r x.l∧x.n≤maxLen)∧Nums x.r x.l)∧Recs W W.heap.size A n xs:=by
 obtain ⟨A0,n0,c0,rfl⟩:=okWide_slice Tryz.underlying23 hval
 obtain ⟨fuel,hf⟩:=hd
 rcases Go.Deep.open_slice Tryz.underlying23 hf with ⟨hcs,_⟩ | ⟨ad,n,c,m,k,D,Pl,hcs,_,hl,hmx,hm,_,hi⟩
 ·have e:Value.slice A0 n0 c0=.slice none 0 0:=by simpa [Value.cells] using hcs
  exact ⟨none,0,0,[],e,by omega,fun _ =>rfl,by simp,Recs.nil _ _ _⟩
 ·have hnm:n≤m:=by rw [hm];simp;exact hl
  have e:Value.slice A0 n0 c0=.slice (some ad) n c:=by simpa [Value.cells] using hcs
  have hall:∀ i,i<n→∃ x:Rw,((((Fits x.r x.l∧x.n≤maxLen)∧Nums x.r x.l)∧(zAE W W.heap.size 3 x.A x.n (dps x.l)∧(x.A=none→x.c=0))))∧∀ k u,x.cells[k]? = some u→W.cell? (ad.add (i * 7+k))=some u:=by
   intro i hin
   obtain ⟨cs,hcell,htr⟩:=hi i (by omega)
   rw [zKV] at hcell
   obtain ⟨_,_,hat⟩:=World.cells?_some hcell
   obtain ⟨r,A,n',c',l,rfl,h2,h3,h4,h5⟩:=zEL htr
   have h6:=zEM htr h5
   refine ⟨⟨r,A,n',c',l⟩,⟨⟨⟨h4,h2⟩,h6⟩,h5,h3⟩,fun k u hu =>?_⟩
   have hk:k<7:=(List.getElem?_eq_some_iff.1 hu).1
   have h:=hat k (by omega)
   rw [zBm] at h
   rw [h]
   exact hu
  obtain ⟨xs,h1,h2,h3⟩:=zGg W ad _ n hall
  refine ⟨some ad,n,c,xs,e,by omega,fun h =>(by cases h),fun x hx =>(h2 x hx).1,⟨by rw [zEG,h1],fun hn =>⟨ad,rfl,?_,fun j u hu =>?_⟩⟩,fun x hx =>(h2 x hx).2⟩
  ·obtain ⟨x,_,h4⟩:=hall 0 hn
   have:=zHL (h4 0 _ rfl)
   rwa [zAH] at this
  ·obtain ⟨x,g1,g2⟩:=zGi xs j u hu
   have:=h3 _ x g1 _ u g2
   rwa [show j / 7 * 7+j % 7=j by omega] at this
end Go.Proofs.YtgoklhoaedceaaaGreatDoor
