/- Texts of one proof. -/
import Derived.Test.YtgoklhoaedceaaaGreatDoorMx17
set_option maxRecDepth 100000
set_option maxHeartbeats 8000000
namespace Go.Proofs.YtgoklhoaedceaaaGreatDoor
open Go.RowKit
theorem zIu {w:World} {base n c size:Nat} {e:TypeId} {A:Option Addr} {xs:List Value} (h:w.ownsRow base e size (.slice A n c) n xs):n≤c:=by
 rcases h.2 with ⟨h5,h6⟩ | ⟨g,cap,cur,h5,_,_,h6,_⟩
 ·injection h5 with _ h7 h8;omega
 ·injection h5 with _ h7 h8;omega
theorem zCZ (a b:List Dp):dps (a++b)=dps a++dps b:=by unfold dps;rw [List.flatMap_append]
theorem zCE (w:World) (d:Dp):zAE (w.alloc (.cells #[.string (tx d.name),.int .u64 d.hash,.bool d.order] 73)) (w.heap.size+1) 3 (some ⟨w.heap.size,0,none⟩) 1 (dps [d]):=by
 have hh:=zAI w (.cells #[.string (tx d.name),.int .u64 d.hash,.bool d.order] 73)
 refine ⟨rfl,fun _ =>⟨_,rfl,by show w.heap.size<_;omega,fun j u hu =>?_⟩⟩
 have hj:j<3:=(List.getElem?_eq_some_iff.1 hu).1
 have h2:=zAA (i:=j) hh (by simpa [dps,Dp.cells,rsv] using hu)
 rw [show (⟨w.heap.size,0,none⟩:Addr).add j=⟨w.heap.size,j,none⟩ from by simp [Addr.add];exact fun h =>h.symm]
 exact h2
structure TrSt (w2:World) (gW g c0 uq:Nat) (t u o s:List UInt8) (rest tl:List (List UInt8)) (acc:List Dp) (v3:Value) (wr:World):Prop where
 at_:DpAt rest tl acc
 words:∃ P n' c',v3=.slice P n' c'∧n'=tl.length∧zAE w2 w2.heap.size 1 P n' (tl.map tsv)∧n'≤c'∧(P=none→c'=0)
 le:∀ x ∈ tl,x.length≤5000
 box:∃ Av cv,wr.heap[g]? = some (.cells #[.int .i64 1,.string (tx (eget t).1),.int .u64 ((rans u).1:Int),.slice Av acc.length cv,.int .u64 ((rans o).1:Int),.int .u64 (uq:Int),.string (tx (eget s).1)] 37 (0,0))∧wr.ownsRow (g+1) 73 3 (.slice Av acc.length cv) acc.length (dps acc)
 b:Below w2.heap.size w2 wr
 few:2 * acc.length+tl.length≤5000
 dp:∀ d ∈ acc,d.name.length≤5000∧0≤d.hash∧d.hash<18446744073709551616
def vlen:Value→Nat
 | .slice _ n _ =>n
 | _ =>0
theorem zHu (line:List UInt8) (hl:line.length≤5000) (w:World) (hp:zAl w) (he:zAx w) (hsh:w.ShapedOpen Tryz.prog) :
  Calls Tryz.prog 34 #[.string (tx line)] w (zJS line w):=by
 have hz:=zAI w (.cells #[.int .i64 0,.string ⟨#[]⟩,.int .u64 0,.slice none 0 0,.int .u64 0,.int .u64 0,.string ⟨#[]⟩] 37)
 have hb1:=(Below.refl w.heap.size w).alloc (Nat.le_refl _) (.cells #[.int .i64 0,.string ⟨#[]⟩,.int .u64 0,.slice none 0 0,.int .u64 0,.int .u64 0,.string ⟨#[]⟩] 37)
 obtain ⟨w1,hw1⟩:∃ x,x=w.alloc (.cells #[.int .i64 0,.string ⟨#[]⟩,.int .u64 0,.slice none 0 0,.int .u64 0,.int .u64 0,.string ⟨#[]⟩] 37):=⟨_,rfl⟩
 rw [← hw1] at hz hb1
 have HWD:=yh (zHm line (by omega) w1 (zAW hsh hb1))
 have HW1:=yh hw1
 have HZ:=yh hz
 have HB1:=yh hb1
 have HP:=yh hp
 have HE:=yh he
 obtain ⟨id0,hid0,hd0,hd1,hd2⟩:=info_parts (show (Tryz.prog.info? 73).map (fun i =>(i.zero,i.size,i.bytes))=some (some (.agg #[.string ⟨#[]⟩,.int .u64 0,.bool false]),3,32) from by kernel_rfl)
 obtain ⟨ws,hws⟩:∃ ws,ws=words line:=⟨_,rfl⟩
 rw [← hws] at HWD
 have HWS:=yh hws
 have hwl:=zCz line.length line (Nat.le_refl _)
 obtain ⟨m,hm⟩:∃ m,m=ws.length:=⟨_,rfl⟩
 rw [← hm] at HWD
 have hm5:m≤5001:=by rw [hm,hws];omega
 have HML:=yh hm
 clear hw1 hz hb1 hp he hsh hws hwl hm
 go_enter Tryz.func34,Tryz.ntmps34
 go_wp2_with fail
 rw [← HW1.out]
 refine HWD.out.mono ?_
 rintro e w2 ⟨v,rfl,ho2,hb2⟩
 obtain ⟨A0,c0,rfl,hA0⟩:=zAL ho2
 have HO2:=yh ho2
 have HB2:=yh (HB1.out.trans (hb2.mono HB1.out.size))
 have HZ2:=yh ((hb2.block w.heap.size (zAG HZ.out)).trans HZ.out)
 clear ho2 hb2 hA0
 by_cases hm2:m<5
 ·have g1:decide ((5:Int)≤(m:Int))=false:=by rw [decide_eq_false_iff_not];omega
  have g2:¬ (5:Int)≤(m:Int):=by omega
  have HM2:Hid (m<5):=hm2
  clear hm2
  go_wp2_with fail
  refine (zCJ w2).mono ?_
  rintro e w3 ⟨rfl,rfl⟩
  exact ⟨rfl,.inr ⟨zAa (by
   cases h:lnO (words line) with
   | none =>rfl
   | some p =>have:=zGQ h;rw [← HWS.out,← HML.out] at this;have:=HM2.out;omega),rfl⟩,HB2.out⟩
 ·have g1:decide ((5:Int)≤(m:Int))=true:=by rw [decide_eq_true_iff];omega
  have g2:(5:Int)≤(m:Int):=by omega
  go_wp2_with fail
  refine (zCc w2).mono ?_
  rintro e w3 ⟨rfl,hw3⟩
  obtain rfl:=hw3.symm
  obtain ⟨t,u,o,q,s,rest,hrest⟩:∃ t u o q s rest,ws=t :: u :: o :: q :: s :: rest:=by
   have:=HML.out
   match ws,this with
   | t :: u :: o :: q :: s :: r,_ =>exact ⟨t,u,o,q,s,r,rfl⟩
   | [],h =>simp at h;omega
   | [_],h =>simp at h;omega
   | [_,_],h =>simp at h;omega
   | [_,_,_],h =>simp at h;omega
   | [_,_,_,_],h =>simp at h;omega
  subst hrest
  have HTK:Hid (lnO (words line)=lnO (t :: u :: o :: q :: s :: rest)):=by rw [← HWS.out];exact rfl
  have hle:∀ x ∈ (t :: u :: o :: q :: s :: rest),x.length≤5000:=fun x hx =>Nat.le_trans (zGq (by rw [← HWS.out];exact hx)) hl
  have HLE:=yh hle
  have hrd:=zAE.of_own HO2.out
  obtain ⟨gW,rfl⟩:∃ gW,A0=some ⟨gW,0,none⟩:=by
   rcases HO2.out.2 with ⟨h,_⟩ | ⟨g,cap,cur,h,_⟩
   ·injection h with _ h2 _;omega
   ·injection h with h1 _ _;exact ⟨g,h1⟩
  obtain ⟨ad,had,hbl,hcl⟩:=hrd.2 (by omega)
  obtain rfl:=(Option.some.inj had).symm
  have c1:∀ j:Nat,(⟨gW,0,none⟩:Addr).add j=⟨gW,j,none⟩:=fun j =>by simp [Addr.add];exact fun h =>h.symm
  have d0:w2.cell? ⟨gW,0,none⟩=some (.string (tx t)):=by have:=hcl 0 (tsv t) rfl;rw [c1] at this;exact this
  have d1:w2.cell? ⟨gW,1,none⟩=some (.string (tx u)):=by have:=hcl 1 (tsv u) rfl;rw [c1] at this;exact this
  have d2:w2.cell? ⟨gW,2,none⟩=some (.string (tx o)):=by have:=hcl 2 (tsv o) rfl;rw [c1] at this;exact this
  have d3:w2.cell? ⟨gW,3,none⟩=some (.string (tx q)):=by have:=hcl 3 (tsv q) rfl;rw [c1] at this;exact this
  have d4:w2.cell? ⟨gW,4,none⟩=some (.string (tx s)):=by have:=hcl 4 (tsv s) rfl;rw [c1] at this;exact this
  have HGW:Hid (gW<w2.heap.size):=hbl
  have i0:(0:Int)<(m:Int):=by omega
  have i1:(1:Int)<(m:Int):=by omega
  have i2:(2:Int)<(m:Int):=by omega
  have i3:(3:Int)<(m:Int):=by omega
  have i4:(4:Int)<(m:Int):=by omega
  have HI5:Hid (5≤m):=(by omega:5≤m)
  clear hm2 hle hrd had hbl hcl c1 g1 g2
  go_wp2_with fail
  obtain ⟨M,hM⟩:∃ M:Act→World→Prop,M=(fun a v =>∃ (g uq:Nat) (v12 v13 v14 v15 v16 v17 v18 v19 v20 v21 v22 v23 v24 v25 v26 v27 v28 v29 v30 v31 v32 v33:Value),a=({ tmps:=#[.string (tx line),undef,.pointer (some ⟨w.heap.size,0,none⟩),.slice (some ⟨gW,0,none⟩) m c0,.pointer (some ⟨g,0,none⟩),undef,undef,.string (tx line),.slice (some ⟨gW,0,none⟩) m c0,.slice (some ⟨gW,0,none⟩) m c0,.int .i64 (m:Int),.bool true,v12,v13,v14,v15,v16,v17,v18,v19,v20,v21,v22,v23,v24,v25,v26,v27,v28,v29,v30,v31,v32,v33,undef,undef,undef,undef,undef,undef,undef,undef,undef,undef,undef,undef,undef,undef,undef,undef,undef,undef,undef,undef,undef,undef,undef,undef,undef,undef,undef,undef,undef,undef,undef,undef,undef,undef,undef,undef,undef],defers:=[] }:Act)∧w2.heap.size≤g∧v.heap[g]? = some (.cells #[.int .i64 1,.string (tx (eget t).1),.int .u64 ((rans u).1:Int),.slice none 0 0,.int .u64 ((rans o).1:Int),.int .u64 (uq:Int),.string (tx (eget s).1)] 37 (0,0))∧Below w2.heap.size w2 v∧(eget t).2=true∧(rans u).2=true∧(rans o).2=true∧nmO q=some uq∧(eget s).2=true):=⟨_,rfl⟩
  have HM:=yh hM
  clear hM
  refine zLG M ?_ ?_
  ·intro a wv hm
   rw [HM.out] at hm
   obtain ⟨g,uq,v12,v13,v14,v15,v16,v17,v18,v19,v20,v21,v22,v23,v24,v25,v26,v27,v28,v29,v30,v31,v32,v33,rfl,hgs,hgx,hdv,h1,h2,h3,h4,h5⟩:=hm
   have HGS:Hid (w2.heap.size≤g):=hgs
   have HGX:=yh hgx
   have HDV:=yh hdv
   have HC5:Hid ((eget t).2=true∧(rans u).2=true∧(rans o).2=true∧nmO q=some uq∧(eget s).2=true):=⟨h1,h2,h3,h4,h5⟩
   clear hgs hgx hdv h1 h2 h3 h4 h5 HM d0 d1 d2 d3 d4
   obtain ⟨P0,hP0⟩:∃ P0,P0=(if c0=5 then some (⟨gW,0,none⟩:Addr) else (some (⟨gW,0,none⟩:Addr)).map (·.add (5 * 1))):=⟨_,rfl⟩
   obtain ⟨q0,hq0⟩:∃ q0,q0=m - 5:=⟨_,rfl⟩
   obtain ⟨cc,hcc⟩:∃ cc,cc=c0 - 5:=⟨_,rfl⟩
   have hmc:m≤c0:=zIu HO2.out
   have hsl:∀ W:World,(Instr.sliceAt 51 (.slice (some ⟨gW,0,none⟩) m c0) (some (.int .i64 5)) none none).run Tryz.prog W=.ok (.slice P0 q0 cc) W:=fun W =>by
    rw [hP0,hq0,hcc]
    have k1:(5:Int)≤(m:Int):=by have:=HI5.out;omega
    have k2:(m:Int)≤(c0:Int):=by omega
    go_simp
   have hql:q0=rest.length:=by rw [hq0,HML.out];simp
   have hcut:=(zAE.of_own HO2.out).cut (k:=5) (cap:=c0) HI5.out hmc
   have HST:Hid (TrSt w2 gW g c0 uq t u o s rest rest [] (.slice P0 q0 cc) wv):=by
    refine ⟨DpAt.start rest,⟨P0,q0,cc,rfl,hql,?_,by omega,fun h =>?_⟩,fun x hx =>HLE.out x (by simp [hx]),⟨none,0,HGX.out,World.ownsRow_nil _ _ _ _⟩,HDV.out,?_,fun d hd =>by cases hd⟩
    ·rw [hP0,hq0];simpa using hcut
    ·rw [hP0] at h
     split at h <;> simp at h
    ·have:=HML.out;simp at this;simp;omega
   clear hP0 hq0 hcc hmc hql hcut i0 i1 i2 i3 i4
   go_wp2
   go_loopw [3] (fun v3 wr =>∃ tl acc,TrSt w2 gW g c0 uq t u o s rest tl acc v3 wr) (fun v3 _ =>vlen v3)
   case atStart =>exact ⟨rest,[],HST.out⟩
   case round =>
    obtain ⟨tl,acc,hst⟩:=hrel
    replace HST:=yh hst
    clear hst hsl
    rcases tl with _ | ⟨a,_ | ⟨b,tl⟩⟩
    ·obtain ⟨Av,cv,hgx,hox⟩:=HST.out.box
     obtain ⟨P,n',c',rfl,hn',_,_,_⟩:=HST.out.words
     obtain rfl:n'=0:=hn'
     have HLN:Hid (lnO (words line)=some (⟨1,(eget t).1,((rans u).1:Int),((rans o).1:Int),(uq:Int),(eget s).1⟩,acc)):=by
      rw [HTK.out]
      have h5:=HC5.out
      have hd:=HST.out.at_.done
      exact yh (by simp [lnO,h5.1,h5.2.1,h5.2.2.1,h5.2.2.2.1,h5.2.2.2.2,hd])
     have HNUM:Hid (Nums ⟨1,(eget t).1,((rans u).1:Int),((rans o).1:Int),(uq:Int),(eget s).1⟩ acc):=⟨by have:=zDD HC5.out.2.1;simp only;omega,by have:=zDD HC5.out.2.2.1;simp only;omega,by have:=zLR HC5.out.2.2.2.1;simp only;omega,fun d hd =>(HST.out.dp d hd).2⟩
     have HFIT:Hid (Fits ⟨1,(eget t).1,((rans u).1:Int),((rans o).1:Int),(uq:Int),(eget s).1⟩ acc):=⟨Nat.le_trans (zCb t) (Nat.le_trans (HLE.out t (by simp)) (by unfold maxLen;omega)),Nat.le_trans (zCb s) (Nat.le_trans (HLE.out s (by simp)) (by unfold maxLen;omega)),fun d hd =>Nat.le_trans (HST.out.dp d hd).1 (by unfold maxLen;omega)⟩
     have hac:acc.length≤5000:=by have:=HST.out.few;omega
     have HB9:Hid (Below w.heap.size w wr):=HB2.out.trans (HST.out.b.mono HB2.out.size)
     have HZ9:Hid (wr.heap[w.heap.size]? = some (.cells #[.int .i64 0,.string ⟨#[]⟩,.int .u64 0,.slice none 0 0,.int .u64 0,.int .u64 0,.string ⟨#[]⟩] 37)):=(HST.out.b.block w.heap.size (zAG HZ2.out)).trans HZ2.out
     have HGB:=yh hgx
     have HO:=yh hox
     have HGW2:Hid (w.heap.size<g):=by have:=zAG HZ2.out;have:=HGS.out;exact yh (by omega)
     have HRW:=yh (zAE.of_own hox)
     have k0:=zAA (i:=0) hgx rfl;have k1:=zAA (i:=1) hgx rfl;have k2:=zAA (i:=2) hgx rfl;have k3:=zAA (i:=3) hgx rfl;have k4:=zAA (i:=4) hgx rfl;have k5:=zAA (i:=5) hgx rfl;have k6:=zAA (i:=6) hgx rfl
     clear hgx hox HST
     have HDL:Hid (∃ ec:Int,∃ T:List UInt8,((ec=0∧MayP 3 ⟨1,(eget t).1,((rans u).1:Int),((rans o).1:Int),(uq:Int),(eget s).1⟩ acc∧T=zAU (zAu (eget t).1 (rans u).1 (rans o).1 uq (eget s).1 acc))∨(ec=1∧¬ MayP 3 ⟨1,(eget t).1,((rans u).1:Int),((rans o).1:Int),(uq:Int),(eget s).1⟩ acc∧T=[]))∧Calls Tryz.prog 17 #[.agg #[.int .i64 1,.string (tx (eget t).1),.int .u64 ((rans u).1:Int),.slice Av acc.length cv,.int .u64 ((rans o).1:Int),.int .u64 (uq:Int),.string (tx (eget s).1)]] wr fun e w' =>e=.returned (.tuple #[.string (tx T),.int .i64 ec])∧Below wr.heap.size wr w'):=by
      by_cases hmay:MayP 3 ⟨1,(eget t).1,((rans u).1:Int),((rans o).1:Int),(uq:Int),(eget s).1⟩ acc
      ·obtain ⟨m1,m2,m3,m4⟩:=zCH hmay
       refine ⟨0,_,.inl ⟨rfl,hmay,rfl⟩,?_⟩
       have hq:=zGR ⟨⟨1,(eget t).1,((rans u).1:Int),((rans o).1:Int),(uq:Int),(eget s).1⟩,Av,acc.length,cv,acc⟩ ⟨HFIT.out,HNUM.out,fun d hd =>Nat.le_trans (m4 d hd) (by omega),by show acc.length≤60;omega,by show (eget t).1.length≤300;simp only at m1;omega,by show (eget s).1.length≤300;simp only at m2;omega⟩ wr (HP.out.below HB9.out) HRW.out
       refine hq.mono ?_
       rintro e w' ⟨⟨_,rfl⟩ | ⟨hno,_⟩,hb⟩
       ·exact ⟨rfl,hb⟩
       ·exact absurd ⟨rfl,hmay⟩ hno
      ·refine ⟨1,[],.inr ⟨rfl,hmay,rfl⟩,?_⟩
       exact zGB 1 ((rans u).1:Int) ((rans o).1:Int) (uq:Int) (eget t).1 (eget s).1 Av acc.length cv acc hac HFIT.out (fun h =>hmay h.2) wr HRW.out
     obtain ⟨ec,T,hec,hcall⟩:=HDL.out
     have HCALL:=yh hcall
     clear hcall HDL
     go_wp2_with fail
     refine HCALL.out.mono ?_
     rintro e w10 ⟨rfl,hb10⟩
     have HB10:Hid (Below w.heap.size w w10):=HB9.out.trans (hb10.mono HB9.out.size)
     replace HZ9:=yh ((hb10.block w.heap.size (zAG HZ9.out)).trans HZ9.out)
     replace HGB:=yh ((hb10.block g (zAG HGB.out)).trans HGB.out)
     replace HO:=yh (zAb HO.out hb10)
     clear hb10 k0 k1 k2 k3 k4 k5 k6 HCALL
     have hTB:((tx T).toList == (tx line).toList)=decide (T=line):=by rw [zAg (a:=line)];exact zAo T line
     rcases hec with ⟨rfl,hmay,hT⟩ | ⟨rfl,hmay,hT⟩
     ·have HMAY:=yh hmay
      have HT:=yh hT
      clear hmay hT
      by_cases hTl:T=line
      ·rw [decide_eq_true hTl] at hTB
       have HTL:=yh hTl
       clear hTl
       go_wp2_with fail
       refine (zCc w10).mono ?_
       rintro e w11 ⟨rfl,hw11⟩
       obtain rfl:=hw11.symm
       have k0:=zAA (i:=0) HGB.out rfl;have k1:=zAA (i:=1) HGB.out rfl;have k2:=zAA (i:=2) HGB.out rfl;have k3:=zAA (i:=3) HGB.out rfl;have k4:=zAA (i:=4) HGB.out rfl;have k5:=zAA (i:=5) HGB.out rfl;have k6:=zAA (i:=6) HGB.out rfl
       have r0:=zAA (i:=0) HZ9.out rfl;have r1:=zAA (i:=1) HZ9.out rfl;have r2:=zAA (i:=2) HZ9.out rfl;have r3:=zAA (i:=3) HZ9.out rfl;have r4:=zAA (i:=4) HZ9.out rfl;have r5:=zAA (i:=5) HZ9.out rfl;have r6:=zAA (i:=6) HZ9.out rfl
       have y0:=zAC (i:=0) HZ9.out;have y1:=zAC (i:=1) HZ9.out;have y2:=zAC (i:=2) HZ9.out;have y3:=zAC (i:=3) HZ9.out;have y4:=zAC (i:=4) HZ9.out;have y5:=zAC (i:=5) HZ9.out;have y6:=zAC (i:=6) HZ9.out
       go_wp2
       have hx5:=(zAD (zAD (zAD (zAD (zAD (zAD (zAD HZ9.out 0 (.int .i64 1)) 1 (.string (tx (eget t).1))) 2 (.int .u64 ((rans u).1:Int))) 3 (.slice Av acc.length cv)) 4 (.int .u64 ((rans o).1:Int))) 5 (.int .u64 (uq:Int))) 6 (.string (tx (eget s).1)))
       refine bodyPost_ret (results_cell_row rfl _ _ _ _ _ _ _ rfl hx5 Tryz.underlying37 rfl (by kernel_rfl)) rfl ?_
       refine ⟨.inl ⟨⟨1,(eget t).1,((rans u).1:Int),((rans o).1:Int),(uq:Int),(eget s).1⟩,acc,Av,acc.length,cv,⟨HFIT.out,HNUM.out,rfl,HMAY.out,?_⟩,rfl,?_⟩,?_⟩
       ·rw [← HTL.out,HT.out];rfl
       ·refine zCA (zAs HO.out (fun k hk =>?_)) (by have:=HGW2.out;omega)
        have hne:w.heap.size≠k:=by have:=zAS HO.out k hk;have:=HGW2.out;omega
        simp [World.setCell,Array.getElem?_modify,hne]
       ·exact ((((((HB10.out.setCell (Nat.le_refl _) _).setCell (Nat.le_refl _) _).setCell (Nat.le_refl _) _).setCell (Nat.le_refl _) _).setCell (Nat.le_refl _) _).setCell (Nat.le_refl _) _).setCell (Nat.le_refl _) _
      ·rw [decide_eq_false hTl] at hTB
       have HTL:Hid (¬ T=line):=hTl
       clear hTl
       go_wp2_with fail
       refine (zCJ w10).mono ?_
       rintro e w11 ⟨rfl,hw11⟩
       obtain rfl:=hw11.symm
       refine ⟨rfl,.inr ⟨fun r2 l2 h2 =>?_,rfl⟩,HB10.out⟩
       have h3:=h2.read
       rw [HLN.out] at h3
       injection h3 with h3
       injection h3 with h3 h4
       subst h3 h4
       exact HTL.out (HT.out.trans h2.2.2.2.2)
     ·have HMAY:Hid (¬ MayP 3 ⟨1,(eget t).1,((rans u).1:Int),((rans o).1:Int),(uq:Int),(eget s).1⟩ acc):=hmay
      clear hmay hT
      go_wp2_with fail
      refine (zCJ w10).mono ?_
      rintro e w11 ⟨rfl,hw11⟩
      obtain rfl:=hw11.symm
      refine ⟨rfl,.inr ⟨fun r2 l2 h2 =>?_,rfl⟩,HB10.out⟩
      have h3:=h2.read
      rw [HLN.out] at h3
      injection h3 with h3
      injection h3 with h3 h4
      subst h3 h4
      exact HMAY.out h2.2.2.2.1
    ·obtain ⟨P,n',c',rfl,hn',hrd,hlc,hpc⟩:=HST.out.words
     obtain rfl:n'=1:=by rw [hn'];rfl
     have HB9:Hid (Below w.heap.size w wr):=HB2.out.trans (HST.out.b.mono HB2.out.size)
     have HAT:=yh HST.out.at_
     clear hn' hrd hlc hpc HST
     go_wp2_with fail
     refine (zCJ wr).mono ?_
     rintro e w9 ⟨rfl,hw9⟩
     obtain rfl:=hw9.symm
     exact ⟨rfl,.inr ⟨zAa (by rw [HTK.out];simp [lnO,HAT.out.one]),rfl⟩,HB9.out⟩
    ·obtain ⟨Av,cv,hgx,hox⟩:=HST.out.box
     obtain ⟨P,n',c',rfl,hn',hrd,hlc,hpc⟩:=HST.out.words
     have hn2':n'=tl.length+2:=by rw [hn'];simp
     obtain ⟨ad,rfl,hbl,hcl⟩:=hrd.2 (by omega)
     have e0:=hcl 0 (tsv a) rfl
     have e1:=hcl 1 (tsv b) rfl
     have hspot:ad.add 0=ad:=by unfold Addr.add;split <;> simp_all
     rw [hspot] at e0
     obtain ⟨gb,ob,hadf⟩:∃ gb ob,ad=⟨gb,ob,none⟩:=⟨_,_,zFK e0⟩
     subst hadf
     have hsp1:(⟨gb,ob,none⟩:Addr).add 1=⟨gb,ob+1,none⟩:=by simp [Addr.add]
     rw [hsp1] at e1
     replace e0:w2.cell? ⟨gb,ob,none⟩=some (.string (tx a)):=e0
     replace e1:w2.cell? ⟨gb,ob+1,none⟩=some (.string (tx b)):=e1
     obtain ⟨P2,hP2⟩:∃ P2,P2=(if c'=2 then some (⟨gb,ob,none⟩:Addr) else (some (⟨gb,ob,none⟩:Addr)).map (·.add (2 * 1))):=⟨_,rfl⟩
     obtain ⟨c2,hc2⟩:∃ c2,c2=c' - 2:=⟨_,rfl⟩
     obtain ⟨n2,hn2⟩:∃ n2,n2=n' - 2:=⟨_,rfl⟩
     have hsl2:∀ W:World,(Instr.sliceAt 51 (.slice (some ⟨gb,ob,none⟩) n' c') (some (.int .i64 2)) none none).run Tryz.prog W=.ok (.slice P2 n2 c2) W:=fun W =>by
      rw [hP2,hc2,hn2]
      have k1:(2:Int)≤(n':Int):=by omega
      have k2:(n':Int)≤(c':Int):=by omega
      clear hn' hn2' hn2 hc2 hP2
      go_simp
     have hcut:=hrd.cut (k:=2) (cap:=c') (by omega) hlc
     have HR2:Hid (zAE w2 w2.heap.size 1 P2 n2 (tl.map tsv)):=by rw [hP2,hn2];exact yh (by simpa using hcut)
     have HN2:Hid (n2=tl.length):=(by omega:n2=tl.length)
     have HC2:Hid (n2≤c2∧(P2=none→c2=0)):=by
      refine ⟨by omega,fun h =>?_⟩
      rw [hP2] at h
      split at h <;> simp at h
     have HAT:=yh HST.out.at_
     have HLA:=yh HST.out.le
     have HFEW:=yh HST.out.few
     have HDB:=yh HST.out.dp
     have HGBL:Hid (gb<w2.heap.size):=hbl
     have j0:¬ n'=0:=by omega
     have j1:(1:Int)<(n':Int):=by omega
     have j2:(0:Int)<(n':Int):=by omega
     have j3:(2:Int)≤(n':Int):=by omega
     have j4:0<n':=by omega
     have HLN':=yh hn2'
     have hac:acc.length≤5000:=by have:=HST.out.few;omega
     have HGB:=yh hgx
     have HO:=yh hox
     have HD0:=yh HST.out.b
     clear hrd hbl hcl hspot hsp1 hcut hP2 hc2 hlc hpc hgx hox hn2 hn' hn2' HST
     go_wp2_with fail
     refine (zCc wr).mono ?_
     rintro e wm ⟨rfl,hwm⟩
     obtain rfl:=hwm.symm
     go_wp2
     refine wp_region_held (S:=fun v =>∀ j:Nat,j<w2.heap.size→v.heap[j]? = w2.heap[j]?) (by kernel_rfl) (show wpAnyH _ _ _ _ _ _ _ _ (wr.drew) from ?_)
     have ONLY:Hid (∀ j:Nat,j<w2.heap.size→wr.drew.heap[j]? = w2.heap[j]?):=fun j hj =>HD0.out.block j hj
     have HD:Hid (Below w2.heap.size w2 wr.drew):=HD0.out.drew
     replace HGB:Hid (wr.drew.heap[g]? = some (.cells #[.int .i64 1,.string (tx (eget t).1),.int .u64 ((rans u).1:Int),.slice Av acc.length cv,.int .u64 ((rans o).1:Int),.int .u64 (uq:Int),.string (tx (eget s).1)] 37 (0,0))):=HGB.out
     replace HO:Hid (wr.drew.ownsRow (g+1) 73 3 (.slice Av acc.length cv) acc.length (dps acc)):=zAb HO.out (Below.refl _ _).drew
     obtain ⟨W0,hW0⟩:∃ x,x=wr.drew:=⟨_,rfl⟩
     rw [← hW0] at ONLY HD HGB HO ⊢
     clear hW0 HD0
     refine zAB 0 (.pointer (some ⟨g,3,none⟩)) rfl (by kernel_rfl) (by kernel_rfl) (by kernel_rfl) (fun _ _ _ h =>h) (by kernel_rfl) ONLY.out (fun _ _ =>by kernel_rfl) ?_
     refine zAB 2 (.slice (some ⟨gb,ob,none⟩) n' c') rfl (by kernel_rfl) (by kernel_rfl) (by kernel_rfl) (fun _ _ _ h =>h) (by kernel_rfl) ONLY.out (fun _ _ =>by kernel_rfl) ?_
     refine zAB 3 (.pointer (some ⟨gb,ob,none⟩)) rfl (by kernel_rfl) (by kernel_rfl) (by kernel_rfl) (fun _ _ _ h =>h) (by kernel_rfl) ONLY.out (by intro v1 hv;go_simp) ?_
     refine zAB 4 (.string (tx a)) rfl (by kernel_rfl) (by kernel_rfl) (by kernel_rfl) (fun _ _ _ h =>h) (by kernel_rfl) ONLY.out (by intro v1 hv;have k:=(zBf hv HGBL.out).trans e0;go_simp) ?_
     refine zAB 5 (.slice (some ⟨gb,ob,none⟩) n' c') rfl (by kernel_rfl) (by kernel_rfl) (by kernel_rfl) (fun _ _ _ h =>h) (by kernel_rfl) ONLY.out (fun _ _ =>by kernel_rfl) ?_
     refine zAB 6 (.pointer (some ⟨gb,ob+1,none⟩)) rfl (by kernel_rfl) (by kernel_rfl) (by kernel_rfl) (fun _ _ _ h =>h) (by kernel_rfl) ONLY.out (by intro v1 hv;go_simp) ?_
     refine zAB 7 (.string (tx b)) rfl (by kernel_rfl) (by kernel_rfl) (by kernel_rfl) (fun _ _ _ h =>h) (by kernel_rfl) ONLY.out (by intro v1 hv;have k:=(zBf hv HGBL.out).trans e1;go_simp) ?_
     refine zBz 1 8 rfl rfl (by kernel_rfl) (by kernel_rfl) (by kernel_rfl) (fun K hK =>?_) (fun K hK =>?_)
     ·have k3:=zAA (i:=3) HGB.out rfl
      go_simp
      refine hK _ _ ONLY.out ?_
      clear hK K k3
      refine zAJ 8 rfl (by kernel_rfl) (by kernel_rfl) (fun K hK =>?_)
      go_simp
      refine (zGP a b (HLA.out a (by simp)) (HLA.out b (by simp)) _).mono ?_
      rintro e wc ⟨⟨d,hd,rfl⟩ | ⟨hd,rfl⟩,hb⟩
      rotate_left
      ·exact ⟨rfl,.inr ⟨zAa (by rw [HTK.out];simp [lnO,HAT.out.none_ hd]),rfl⟩,(HB2.out.trans (HD.out.mono HB2.out.size)).trans (hb.mono (HB2.out.trans (HD.out.mono HB2.out.size)).size)⟩
      have HDP:=yh hd
      have ONLYc:Hid (∀ j:Nat,j<w2.heap.size→wc.heap[j]? = w2.heap[j]?):=fun j hj =>(hb.block j (Nat.lt_of_lt_of_le hj HD.out.size)).trans (ONLY.out j hj)
      have HDc:Hid (Below w2.heap.size w2 wc):=HD.out.trans (hb.mono HD.out.size)
      replace HGB:=yh ((hb.block g (zAG HGB.out)).trans HGB.out)
      replace HO:=yh (zAb HO.out hb)
      clear hd hb
      refine hK _ _ ONLYc.out ?_
      clear hK K
      refine zAJ 9 rfl (by kernel_rfl) (by kernel_rfl) (fun K hK =>?_)
      go_simp
      have hal:=(Below.refl wc.heap.size wc).alloc (Nat.le_refl _) (.cells #[.string (tx d.name),.int .u64 d.hash,.bool d.order] 73)
      have HNW:=yh (zCE wc d)
      have ONLYn:Hid (∀ j:Nat,j<w2.heap.size→(wc.alloc (.cells #[.string (tx d.name),.int .u64 d.hash,.bool d.order] 73)).heap[j]? = w2.heap[j]?):=fun j hj =>(hal.block j (Nat.lt_of_lt_of_le hj HDc.out.size)).trans (ONLYc.out j hj)
      have HDn:Hid (Below w2.heap.size w2 (wc.alloc (.cells #[.string (tx d.name),.int .u64 d.hash,.bool d.order] 73))):=HDc.out.trans (hal.mono HDc.out.size)
      replace HGB:=yh ((hal.block g (zAG HGB.out)).trans HGB.out)
      replace HO:=yh (zAb HO.out hal)
      have HLTn:Hid (g<wc.heap.size+1):=by have h:=zAG HGB.out;exact yh (by simpa using h)
      clear hal
      refine hK _ _ ONLYn.out ?_
      clear hK K
      have hsz1:(wc.alloc (.cells #[.string (tx d.name),.int .u64 d.hash,.bool d.order] 73)).heap.size=wc.heap.size+1:=by simp
      refine zAJ 10 rfl (by kernel_rfl) (by kernel_rfl) (fun K hK =>?_)
      refine zBp (.tmp 46) (.tmp 54) 35 rfl (g+1) 73 id0 _ 3 32 Tryz.underlying35 hid0 hd0 hd1 hd2 rfl (by decide) (.slice Av acc.length cv) acc.length (dps acc) rfl HO.out (some ⟨wc.heap.size,0,none⟩) 1 1 (wc.heap.size+1) (dps [d]) rfl (by intro h;cases h) HNW.out (zCa _) (by unfold maxLen;omega) (by omega) (by have:=HLTn.out;omega) ?_
      intro v9 w9 ho9 hg9 _
      obtain ⟨A9,c9,rfl,_⟩:=zAL ho9
      rw [← zCZ] at ho9
      have HGB9:=yh ((hg9.block g (zAG HGB.out) (fun e =>by have:=zAS HO.out g e.symm;omega)).trans HGB.out)
      have HD9:Hid (Below w2.heap.size w2 w9):=HDn.out.grown hg9 HDn.out.size (fun j hj =>by have:=zAS HO.out j hj;have:=HGS.out;omega)
      have ONLY9:Hid (∀ j:Nat,j<w2.heap.size→w9.heap[j]? = w2.heap[j]?):=fun j hj =>HD9.out.block j hj
      have HO9:=yh ho9
      refine hK _ _ ONLY9.out ?_
      clear hK K ho9 hg9 hsz1
      refine zAB 11 (.pointer (some ⟨g,3,none⟩)) rfl (by kernel_rfl) (by kernel_rfl) (by kernel_rfl) (fun _ _ _ h =>h) (by kernel_rfl) ONLY9.out (fun _ _ =>by kernel_rfl) ?_
      refine zAJ 12 rfl (by kernel_rfl) (by kernel_rfl) (fun K hK =>?_)
      refine zBy (.tmp 56) (.tmp 55) rfl g _ _ _ _ _ _ _ A9 (acc.length+1) c9 rfl rfl HGB9.out ?_
      intro w10 hh10 hg10
      have HD10:Hid (Below w2.heap.size w2 w10):=HD9.out.grown hg10 HD9.out.size (fun j hj =>by have:=Option.some.inj hj;have:=HGS.out;omega)
      have HST2:Hid (TrSt w2 gW g c0 uq t u o s rest tl (acc++[d]) (.slice P2 n2 c2) w10):=by
       refine ⟨HAT.out.next HDP.out,⟨P2,n2,c2,rfl,HN2.out,HR2.out,HC2.out.1,HC2.out.2⟩,fun x hx =>HLA.out x (by simp [hx]),⟨A9,c9,?_,?_⟩,HD10.out,?_,fun e he =>?_⟩
       ·rw [List.length_append];exact hh10
       ·rw [List.length_append]
        exact zAs HO9.out (fun k hk =>hg10.block k (zBu HO9.out k hk) (fun e =>by have:=zAS HO9.out k hk;have:=Option.some.inj e;omega))
       ·rw [List.length_append,List.length_singleton];have:=HFEW.out;simp at this;omega
       ·rcases List.mem_append.1 he with he | he
        ·exact HDB.out e he
        ·obtain rfl:=List.mem_singleton.1 he
         have h1:=zGC HDP.out
         have h2:=HLA.out a (by simp)
         exact ⟨by omega,h1.2⟩
      refine hK _ _ (fun j hj =>HD10.out.block j hj) ?_
      clear hK K hh10 hg10
      refine wpAnyH_done (by kernel_rfl) ?_ _
      go_simp
      go_wp2
      exact ⟨⟨tl,acc++[d],HST2.out⟩,by have:=HN2.out;have:=HLN'.out;simp [vlen];omega⟩
     ·go_simp
      refine (zGP a b (HLA.out a (by simp)) (HLA.out b (by simp)) _).mono ?_
      rintro e wc ⟨⟨d,hd,rfl⟩ | ⟨hd,rfl⟩,hb⟩
      rotate_left
      ·exact ⟨rfl,.inr ⟨zAa (by rw [HTK.out];simp [lnO,HAT.out.none_ hd]),rfl⟩,(HB2.out.trans (HD.out.mono HB2.out.size)).trans (hb.mono (HB2.out.trans (HD.out.mono HB2.out.size)).size)⟩
      have HDP:=yh hd
      have ONLYc:Hid (∀ j:Nat,j<w2.heap.size→wc.heap[j]? = w2.heap[j]?):=fun j hj =>(hb.block j (Nat.lt_of_lt_of_le hj HD.out.size)).trans (ONLY.out j hj)
      have HDc:Hid (Below w2.heap.size w2 wc):=HD.out.trans (hb.mono HD.out.size)
      replace HGB:=yh ((hb.block g (zAG HGB.out)).trans HGB.out)
      replace HO:=yh (zAb HO.out hb)
      clear hd hb
      refine hK _ _ ONLYc.out ?_
      clear hK K
      refine zBz 1 9 rfl rfl (by kernel_rfl) (by kernel_rfl) (by kernel_rfl) (fun K hK =>?_) (fun K hK =>?_)
      ·have k3:=zAA (i:=3) HGB.out rfl
       go_simp
       refine hK _ _ ONLYc.out ?_
       clear hK K k3
       refine zAJ 9 rfl (by kernel_rfl) (by kernel_rfl) (fun K hK =>?_)
       go_simp
       have hal:=(Below.refl wc.heap.size wc).alloc (Nat.le_refl _) (.cells #[.string (tx d.name),.int .u64 d.hash,.bool d.order] 73)
       have HNW:=yh (zCE wc d)
       have ONLYn:Hid (∀ j:Nat,j<w2.heap.size→(wc.alloc (.cells #[.string (tx d.name),.int .u64 d.hash,.bool d.order] 73)).heap[j]? = w2.heap[j]?):=fun j hj =>(hal.block j (Nat.lt_of_lt_of_le hj HDc.out.size)).trans (ONLYc.out j hj)
       have HDn:Hid (Below w2.heap.size w2 (wc.alloc (.cells #[.string (tx d.name),.int .u64 d.hash,.bool d.order] 73))):=HDc.out.trans (hal.mono HDc.out.size)
       replace HGB:=yh ((hal.block g (zAG HGB.out)).trans HGB.out)
       replace HO:=yh (zAb HO.out hal)
       have HLTn:Hid (g<wc.heap.size+1):=by have h:=zAG HGB.out;exact yh (by simpa using h)
       clear hal
       refine hK _ _ ONLYn.out ?_
       clear hK K
       have hsz1:(wc.alloc (.cells #[.string (tx d.name),.int .u64 d.hash,.bool d.order] 73)).heap.size=wc.heap.size+1:=by simp
       refine zAJ 10 rfl (by kernel_rfl) (by kernel_rfl) (fun K hK =>?_)
       refine zBp (.tmp 46) (.tmp 54) 35 rfl (g+1) 73 id0 _ 3 32 Tryz.underlying35 hid0 hd0 hd1 hd2 rfl (by decide) (.slice Av acc.length cv) acc.length (dps acc) rfl HO.out (some ⟨wc.heap.size,0,none⟩) 1 1 (wc.heap.size+1) (dps [d]) rfl (by intro h;cases h) HNW.out (zCa _) (by unfold maxLen;omega) (by omega) (by have:=HLTn.out;omega) ?_
       intro v9 w9 ho9 hg9 _
       obtain ⟨A9,c9,rfl,_⟩:=zAL ho9
       rw [← zCZ] at ho9
       have HGB9:=yh ((hg9.block g (zAG HGB.out) (fun e =>by have:=zAS HO.out g e.symm;omega)).trans HGB.out)
       have HD9:Hid (Below w2.heap.size w2 w9):=HDn.out.grown hg9 HDn.out.size (fun j hj =>by have:=zAS HO.out j hj;have:=HGS.out;omega)
       have ONLY9:Hid (∀ j:Nat,j<w2.heap.size→w9.heap[j]? = w2.heap[j]?):=fun j hj =>HD9.out.block j hj
       have HO9:=yh ho9
       refine hK _ _ ONLY9.out ?_
       clear hK K ho9 hg9 hsz1
       refine zAB 11 (.pointer (some ⟨g,3,none⟩)) rfl (by kernel_rfl) (by kernel_rfl) (by kernel_rfl) (fun _ _ _ h =>h) (by kernel_rfl) ONLY9.out (fun _ _ =>by kernel_rfl) ?_
       refine zAJ 12 rfl (by kernel_rfl) (by kernel_rfl) (fun K hK =>?_)
       refine zBy (.tmp 56) (.tmp 55) rfl g _ _ _ _ _ _ _ A9 (acc.length+1) c9 rfl rfl HGB9.out ?_
       intro w10 hh10 hg10
       have HD10:Hid (Below w2.heap.size w2 w10):=HD9.out.grown hg10 HD9.out.size (fun j hj =>by have:=Option.some.inj hj;have:=HGS.out;omega)
       have HST2:Hid (TrSt w2 gW g c0 uq t u o s rest tl (acc++[d]) (.slice P2 n2 c2) w10):=by
        refine ⟨HAT.out.next HDP.out,⟨P2,n2,c2,rfl,HN2.out,HR2.out,HC2.out.1,HC2.out.2⟩,fun x hx =>HLA.out x (by simp [hx]),⟨A9,c9,?_,?_⟩,HD10.out,?_,fun e he =>?_⟩
        ·rw [List.length_append];exact hh10
        ·rw [List.length_append]
         exact zAs HO9.out (fun k hk =>hg10.block k (zBu HO9.out k hk) (fun e =>by have:=zAS HO9.out k hk;have:=Option.some.inj e;omega))
        ·rw [List.length_append,List.length_singleton];have:=HFEW.out;simp at this;omega
        ·rcases List.mem_append.1 he with he | he
         ·exact HDB.out e he
         ·obtain rfl:=List.mem_singleton.1 he
          have h1:=zGC HDP.out
          have h2:=HLA.out a (by simp)
          exact ⟨by omega,h1.2⟩
       refine hK _ _ (fun j hj =>HD10.out.block j hj) ?_
       clear hK K hh10 hg10
       refine wpAnyH_done (by kernel_rfl) ?_ _
       go_simp
       go_wp2
       exact ⟨⟨tl,acc++[d],HST2.out⟩,by have:=HN2.out;have:=HLN'.out;simp [vlen];omega⟩
      ·go_simp
       have hal:=(Below.refl wc.heap.size wc).alloc (Nat.le_refl _) (.cells #[.string (tx d.name),.int .u64 d.hash,.bool d.order] 73)
       have HNW:=yh (zCE wc d)
       have ONLYn:Hid (∀ j:Nat,j<w2.heap.size→(wc.alloc (.cells #[.string (tx d.name),.int .u64 d.hash,.bool d.order] 73)).heap[j]? = w2.heap[j]?):=fun j hj =>(hal.block j (Nat.lt_of_lt_of_le hj HDc.out.size)).trans (ONLYc.out j hj)
       have HDn:Hid (Below w2.heap.size w2 (wc.alloc (.cells #[.string (tx d.name),.int .u64 d.hash,.bool d.order] 73))):=HDc.out.trans (hal.mono HDc.out.size)
       replace HGB:=yh ((hal.block g (zAG HGB.out)).trans HGB.out)
       replace HO:=yh (zAb HO.out hal)
       have HLTn:Hid (g<wc.heap.size+1):=by have h:=zAG HGB.out;exact yh (by simpa using h)
       clear hal
       refine hK _ _ ONLYn.out ?_
       clear hK K
       refine zAJ 1 rfl (by kernel_rfl) (by kernel_rfl) (fun K hK =>?_)
       have k3:=zAA (i:=3) HGB.out rfl
       go_simp
       refine hK _ _ ONLYn.out ?_
       clear hK K k3
       have hsz1:(wc.alloc (.cells #[.string (tx d.name),.int .u64 d.hash,.bool d.order] 73)).heap.size=wc.heap.size+1:=by simp
       refine zAJ 10 rfl (by kernel_rfl) (by kernel_rfl) (fun K hK =>?_)
       refine zBp (.tmp 46) (.tmp 54) 35 rfl (g+1) 73 id0 _ 3 32 Tryz.underlying35 hid0 hd0 hd1 hd2 rfl (by decide) (.slice Av acc.length cv) acc.length (dps acc) rfl HO.out (some ⟨wc.heap.size,0,none⟩) 1 1 (wc.heap.size+1) (dps [d]) rfl (by intro h;cases h) HNW.out (zCa _) (by unfold maxLen;omega) (by omega) (by have:=HLTn.out;omega) ?_
       intro v9 w9 ho9 hg9 _
       obtain ⟨A9,c9,rfl,_⟩:=zAL ho9
       rw [← zCZ] at ho9
       have HGB9:=yh ((hg9.block g (zAG HGB.out) (fun e =>by have:=zAS HO.out g e.symm;omega)).trans HGB.out)
       have HD9:Hid (Below w2.heap.size w2 w9):=HDn.out.grown hg9 HDn.out.size (fun j hj =>by have:=zAS HO.out j hj;have:=HGS.out;omega)
       have ONLY9:Hid (∀ j:Nat,j<w2.heap.size→w9.heap[j]? = w2.heap[j]?):=fun j hj =>HD9.out.block j hj
       have HO9:=yh ho9
       refine hK _ _ ONLY9.out ?_
       clear hK K ho9 hg9 hsz1
       refine zAB 11 (.pointer (some ⟨g,3,none⟩)) rfl (by kernel_rfl) (by kernel_rfl) (by kernel_rfl) (fun _ _ _ h =>h) (by kernel_rfl) ONLY9.out (fun _ _ =>by kernel_rfl) ?_
       refine zAJ 12 rfl (by kernel_rfl) (by kernel_rfl) (fun K hK =>?_)
       refine zBy (.tmp 56) (.tmp 55) rfl g _ _ _ _ _ _ _ A9 (acc.length+1) c9 rfl rfl HGB9.out ?_
       intro w10 hh10 hg10
       have HD10:Hid (Below w2.heap.size w2 w10):=HD9.out.grown hg10 HD9.out.size (fun j hj =>by have:=Option.some.inj hj;have:=HGS.out;omega)
       have HST2:Hid (TrSt w2 gW g c0 uq t u o s rest tl (acc++[d]) (.slice P2 n2 c2) w10):=by
        refine ⟨HAT.out.next HDP.out,⟨P2,n2,c2,rfl,HN2.out,HR2.out,HC2.out.1,HC2.out.2⟩,fun x hx =>HLA.out x (by simp [hx]),⟨A9,c9,?_,?_⟩,HD10.out,?_,fun e he =>?_⟩
        ·rw [List.length_append];exact hh10
        ·rw [List.length_append]
         exact zAs HO9.out (fun k hk =>hg10.block k (zBu HO9.out k hk) (fun e =>by have:=zAS HO9.out k hk;have:=Option.some.inj e;omega))
        ·rw [List.length_append,List.length_singleton];have:=HFEW.out;simp at this;omega
        ·rcases List.mem_append.1 he with he | he
         ·exact HDB.out e he
         ·obtain rfl:=List.mem_singleton.1 he
          have h1:=zGC HDP.out
          have h2:=HLA.out a (by simp)
          exact ⟨by omega,h1.2⟩
       refine hK _ _ (fun j hj =>HD10.out.block j hj) ?_
       clear hK K hh10 hg10
       refine wpAnyH_done (by kernel_rfl) ?_ _
       go_simp
       go_wp2
       exact ⟨⟨tl,acc++[d],HST2.out⟩,by have:=HN2.out;have:=HLN'.out;simp [vlen];omega⟩
  ·refine wp_region_held (S:=fun v =>∀ j:Nat,j<w2.heap.size→v.heap[j]? = w2.heap[j]?) (by kernel_rfl) (show wpAnyH _ _ _ _ _ _ _ _ (w2.drew) from ?_)
   have ONLY:Hid (∀ j:Nat,j<w2.heap.size→w2.drew.heap[j]? = w2.heap[j]?):=fun _ _ =>rfl
   have HD:Hid (Below w2.heap.size w2 w2.drew):=(Below.refl _ _).drew
   obtain ⟨W0,hW0⟩:∃ x,x=w2.drew:=⟨_,rfl⟩
   rw [← hW0] at ONLY HD ⊢
   clear hW0
   refine zAB 0 (.slice (some ⟨gW,0,none⟩) m c0) rfl (by kernel_rfl) (by kernel_rfl) (by kernel_rfl) (fun _ _ _ h =>h) (by kernel_rfl) ONLY.out (fun _ _ =>by kernel_rfl) ?_
   refine zAB 1 (.pointer (some ⟨gW,0,none⟩)) rfl (by kernel_rfl) (by kernel_rfl) (by kernel_rfl) (fun _ _ _ h =>h) (by kernel_rfl) ONLY.out (by intro v1 hv;have i00:¬ m=0:=(by have:=HI5.out;omega);go_simp) ?_
   refine zAB 2 (.string (tx t)) rfl (by kernel_rfl) (by kernel_rfl) (by kernel_rfl) (fun _ _ _ h =>h) (by kernel_rfl) ONLY.out (by intro v1 hv;have k:=(zBf hv HGW.out).trans d0;go_simp) ?_
   refine zAB 4 (.slice (some ⟨gW,0,none⟩) m c0) rfl (by kernel_rfl) (by kernel_rfl) (by kernel_rfl) (fun _ _ _ h =>h) (by kernel_rfl) ONLY.out (fun _ _ =>by kernel_rfl) ?_
   refine zAB 5 (.pointer (some ⟨gW,1,none⟩)) rfl (by kernel_rfl) (by kernel_rfl) (by kernel_rfl) (fun _ _ _ h =>h) (by kernel_rfl) ONLY.out (by intro v1 hv;have i00:¬ m=0:=(by have:=HI5.out;omega);go_simp) ?_
   refine zAB 6 (.string (tx u)) rfl (by kernel_rfl) (by kernel_rfl) (by kernel_rfl) (fun _ _ _ h =>h) (by kernel_rfl) ONLY.out (by intro v1 hv;have k:=(zBf hv HGW.out).trans d1;go_simp) ?_
   refine zAB 8 (.slice (some ⟨gW,0,none⟩) m c0) rfl (by kernel_rfl) (by kernel_rfl) (by kernel_rfl) (fun _ _ _ h =>h) (by kernel_rfl) ONLY.out (fun _ _ =>by kernel_rfl) ?_
   refine zAB 9 (.pointer (some ⟨gW,2,none⟩)) rfl (by kernel_rfl) (by kernel_rfl) (by kernel_rfl) (fun _ _ _ h =>h) (by kernel_rfl) ONLY.out (by intro v1 hv;have i00:¬ m=0:=(by have:=HI5.out;omega);go_simp) ?_
   refine zAB 10 (.string (tx o)) rfl (by kernel_rfl) (by kernel_rfl) (by kernel_rfl) (fun _ _ _ h =>h) (by kernel_rfl) ONLY.out (by intro v1 hv;have k:=(zBf hv HGW.out).trans d2;go_simp) ?_
   refine zAB 12 (.slice (some ⟨gW,0,none⟩) m c0) rfl (by kernel_rfl) (by kernel_rfl) (by kernel_rfl) (fun _ _ _ h =>h) (by kernel_rfl) ONLY.out (fun _ _ =>by kernel_rfl) ?_
   refine zAB 13 (.pointer (some ⟨gW,3,none⟩)) rfl (by kernel_rfl) (by kernel_rfl) (by kernel_rfl) (fun _ _ _ h =>h) (by kernel_rfl) ONLY.out (by intro v1 hv;have i00:¬ m=0:=(by have:=HI5.out;omega);go_simp) ?_
   refine zAB 14 (.string (tx q)) rfl (by kernel_rfl) (by kernel_rfl) (by kernel_rfl) (fun _ _ _ h =>h) (by kernel_rfl) ONLY.out (by intro v1 hv;have k:=(zBf hv HGW.out).trans d3;go_simp) ?_
   refine zAB 16 (.slice (some ⟨gW,0,none⟩) m c0) rfl (by kernel_rfl) (by kernel_rfl) (by kernel_rfl) (fun _ _ _ h =>h) (by kernel_rfl) ONLY.out (fun _ _ =>by kernel_rfl) ?_
   refine zAB 17 (.pointer (some ⟨gW,4,none⟩)) rfl (by kernel_rfl) (by kernel_rfl) (by kernel_rfl) (fun _ _ _ h =>h) (by kernel_rfl) ONLY.out (by intro v1 hv;have i00:¬ m=0:=(by have:=HI5.out;omega);go_simp) ?_
   refine zAB 18 (.string (tx s)) rfl (by kernel_rfl) (by kernel_rfl) (by kernel_rfl) (fun _ _ _ h =>h) (by kernel_rfl) ONLY.out (by intro v1 hv;have k:=(zBf hv HGW.out).trans d4;go_simp) ?_
   refine zBz 3 21 rfl rfl (by kernel_rfl) (by kernel_rfl) (by kernel_rfl) (fun K hK =>?_) (fun K hK =>?_)
   ·go_simp
    refine (zBR t (HLE.out _ (by simp)) _).mono ?_
    rintro e w3_0 ⟨⟨h1,rfl⟩ | ⟨h1,rfl⟩,hb⟩
    rotate_left
    ·exact ⟨rfl,.inr ⟨zAa (by rw [HTK.out];simp [lnO,h1]),rfl⟩,(HB2.out.trans (HD.out.mono HB2.out.size)).trans (hb.mono (HB2.out.trans (HD.out.mono HB2.out.size)).size)⟩
    have HT:=yh h1
    have ONLYc0:Hid (∀ j:Nat,j<w2.heap.size→w3_0.heap[j]? = w2.heap[j]?):=fun j hj =>(hb.block j (Nat.lt_of_lt_of_le hj HD.out.size)).trans (ONLY.out j hj)
    have HDc0:Hid (Below w2.heap.size w2 w3_0):=HD.out.trans (hb.mono HD.out.size)
    clear h1 hb
    refine hK _ _ ONLYc0.out ?_
    clear hK K
    refine zBz 7 21 rfl rfl (by kernel_rfl) (by kernel_rfl) (by kernel_rfl) (fun K hK =>?_) (fun K hK =>?_)
    ·go_simp
     refine (zBW u (HLE.out _ (by simp)) _).mono ?_
     rintro e w3_1 ⟨⟨h1,rfl⟩ | ⟨h1,rfl⟩,hb⟩
     rotate_left
     ·exact ⟨rfl,.inr ⟨zAa (by rw [HTK.out];simp [lnO,h1]),rfl⟩,(HB2.out.trans (HDc0.out.mono HB2.out.size)).trans (hb.mono (HB2.out.trans (HDc0.out.mono HB2.out.size)).size)⟩
     have HU:=yh h1
     have ONLYc1:Hid (∀ j:Nat,j<w2.heap.size→w3_1.heap[j]? = w2.heap[j]?):=fun j hj =>(hb.block j (Nat.lt_of_lt_of_le hj HDc0.out.size)).trans (ONLYc0.out j hj)
     have HDc1:Hid (Below w2.heap.size w2 w3_1):=HDc0.out.trans (hb.mono HDc0.out.size)
     clear h1 hb
     refine hK _ _ ONLYc1.out ?_
     clear hK K
     refine zBz 11 21 rfl rfl (by kernel_rfl) (by kernel_rfl) (by kernel_rfl) (fun K hK =>?_) (fun K hK =>?_)
     ·go_simp
      refine (zBW o (HLE.out _ (by simp)) _).mono ?_
      rintro e w3_2 ⟨⟨h1,rfl⟩ | ⟨h1,rfl⟩,hb⟩
      rotate_left
      ·exact ⟨rfl,.inr ⟨zAa (by rw [HTK.out];simp [lnO,h1]),rfl⟩,(HB2.out.trans (HDc1.out.mono HB2.out.size)).trans (hb.mono (HB2.out.trans (HDc1.out.mono HB2.out.size)).size)⟩
      have HV:=yh h1
      have ONLYc2:Hid (∀ j:Nat,j<w2.heap.size→w3_2.heap[j]? = w2.heap[j]?):=fun j hj =>(hb.block j (Nat.lt_of_lt_of_le hj HDc1.out.size)).trans (ONLYc1.out j hj)
      have HDc2:Hid (Below w2.heap.size w2 w3_2):=HDc1.out.trans (hb.mono HDc1.out.size)
      clear h1 hb
      refine hK _ _ ONLYc2.out ?_
      clear hK K
      refine zBz 15 21 rfl rfl (by kernel_rfl) (by kernel_rfl) (by kernel_rfl) (fun K hK =>?_) (fun K hK =>?_)
      ·go_simp
       refine (zBt q (HLE.out _ (by simp)) _ (HE.out.below (HB2.out.trans (HDc2.out.mono HB2.out.size)))).mono ?_
       rintro e w3_3 ⟨⟨uq,h1,rfl⟩ | ⟨h1,rfl⟩,hb⟩
       rotate_left
       ·exact ⟨rfl,.inr ⟨zAa (by rw [HTK.out];simp [lnO,h1]),rfl⟩,(HB2.out.trans (HDc2.out.mono HB2.out.size)).trans (hb.mono (HB2.out.trans (HDc2.out.mono HB2.out.size)).size)⟩
       have HQ:=yh h1
       have ONLYc3:Hid (∀ j:Nat,j<w2.heap.size→w3_3.heap[j]? = w2.heap[j]?):=fun j hj =>(hb.block j (Nat.lt_of_lt_of_le hj HDc2.out.size)).trans (ONLYc2.out j hj)
       have HDc3:Hid (Below w2.heap.size w2 w3_3):=HDc2.out.trans (hb.mono HDc2.out.size)
       clear h1 hb
       refine hK _ _ ONLYc3.out ?_
       clear hK K
       refine zBz 19 21 rfl rfl (by kernel_rfl) (by kernel_rfl) (by kernel_rfl) (fun K hK =>?_) (fun K hK =>?_)
       ·go_simp
        refine (zBR s (HLE.out _ (by simp)) _).mono ?_
        rintro e w3_4 ⟨⟨h1,rfl⟩ | ⟨h1,rfl⟩,hb⟩
        rotate_left
        ·exact ⟨rfl,.inr ⟨zAa (by rw [HTK.out];simp [lnO,h1]),rfl⟩,(HB2.out.trans (HDc3.out.mono HB2.out.size)).trans (hb.mono (HB2.out.trans (HDc3.out.mono HB2.out.size)).size)⟩
        have HS:=yh h1
        have ONLYc4:Hid (∀ j:Nat,j<w2.heap.size→w3_4.heap[j]? = w2.heap[j]?):=fun j hj =>(hb.block j (Nat.lt_of_lt_of_le hj HDc3.out.size)).trans (ONLYc3.out j hj)
        have HDc4:Hid (Below w2.heap.size w2 w3_4):=HDc3.out.trans (hb.mono HDc3.out.size)
        clear h1 hb
        refine hK _ _ ONLYc4.out ?_
        clear hK K
        refine zAB 20 (.agg #[.int .i64 1,.string (tx (eget t).1),.int .u64 ((rans u).1:Int),.slice none 0 0,.int .u64 ((rans o).1:Int),.int .u64 (uq:Int),.string (tx (eget s).1)]) rfl (by kernel_rfl) (by kernel_rfl) (by kernel_rfl) (fun _ _ _ h =>h) (by kernel_rfl) ONLYc4.out (fun _ _ =>by kernel_rfl) ?_
        refine zAJ 21 rfl (by kernel_rfl) (by kernel_rfl) (fun K hK =>?_)
        go_simp
        have HGX:=yh (zAI w3_4 (.cells #[.int .i64 0,.string ⟨#[]⟩,.int .u64 0,.slice none 0 0,.int .u64 0,.int .u64 0,.string ⟨#[]⟩] 37))
        have HGS:Hid (w2.heap.size≤w3_4.heap.size):=HDc4.out.size
        have hal:=(Below.refl w3_4.heap.size w3_4).alloc (Nat.le_refl _) (.cells #[.int .i64 0,.string ⟨#[]⟩,.int .u64 0,.slice none 0 0,.int .u64 0,.int .u64 0,.string ⟨#[]⟩] 37)
        have ONLYa:Hid (∀ j:Nat,j<w2.heap.size→(w3_4.alloc (.cells #[.int .i64 0,.string ⟨#[]⟩,.int .u64 0,.slice none 0 0,.int .u64 0,.int .u64 0,.string ⟨#[]⟩] 37)).heap[j]? = w2.heap[j]?):=fun j hj =>(hal.block j (Nat.lt_of_lt_of_le hj HDc4.out.size)).trans (ONLYc4.out j hj)
        have HDa:Hid (Below w2.heap.size w2 (w3_4.alloc (.cells #[.int .i64 0,.string ⟨#[]⟩,.int .u64 0,.slice none 0 0,.int .u64 0,.int .u64 0,.string ⟨#[]⟩] 37))):=HDc4.out.trans (hal.mono HDc4.out.size)
        clear hal
        obtain ⟨ga,hga⟩:∃ ga,ga=w3_4.heap.size:=⟨_,rfl⟩
        rw [← hga] at HGX HGS ⊢
        clear hga
        obtain ⟨Wa,hWa⟩:∃ Wa,Wa=w3_4.alloc (.cells #[.int .i64 0,.string ⟨#[]⟩,.int .u64 0,.slice none 0 0,.int .u64 0,.int .u64 0,.string ⟨#[]⟩] 37):=⟨_,rfl⟩
        rw [← hWa] at HGX ONLYa HDa ⊢
        clear hWa
        refine hK _ _ ONLYa.out ?_
        clear hK K
        refine zAJ 22 rfl (by kernel_rfl) (by kernel_rfl) (fun K hK =>?_)
        refine wp_store_row 37 (.tmp 4) (.tmp 33) rfl ga #[.int .i64 1,.string (tx (eget t).1),.int .u64 ((rans u).1:Int),.slice none 0 0,.int .u64 ((rans o).1:Int),.int .u64 (uq:Int),.string (tx (eget s).1)] rfl rfl 37 _ HGX.out (by kernel_rfl) rfl (by simp [Value.oneCell']) ?_
        have hfin:=setRow_heap Wa ga _ #[.int .i64 1,.string (tx (eget t).1),.int .u64 ((rans u).1:Int),.slice none 0 0,.int .u64 ((rans o).1:Int),.int .u64 (uq:Int),.string (tx (eget s).1)] _ _ HGX.out
        have hgr:=zBG Wa ga #[.int .i64 1,.string (tx (eget t).1),.int .u64 ((rans u).1:Int),.slice none 0 0,.int .u64 ((rans o).1:Int),.int .u64 (uq:Int),.string (tx (eget s).1)]
        have HFN:=yh hfin
        have HDf:=yh (HDa.out.grown hgr HDa.out.size (fun k hk =>by injection hk with hk;subst hk;exact HGS.out))
        have ONLYf:Hid (∀ j:Nat,j<w2.heap.size→(Wa.setRow ga #[.int .i64 1,.string (tx (eget t).1),.int .u64 ((rans u).1:Int),.slice none 0 0,.int .u64 ((rans o).1:Int),.int .u64 (uq:Int),.string (tx (eget s).1)]).heap[j]? = w2.heap[j]?):=fun j hj =>HDf.out.block j hj
        clear hfin hgr
        refine hK _ _ ONLYf.out ?_
        clear hK K
        refine wpAnyH_done (by kernel_rfl) ?_ _
        go_simp
        rw [HM.out]
        exact ⟨_,_,_,_,_,_,_,_,_,_,_,_,_,_,_,_,_,_,_,_,_,_,_,_,rfl,HGS.out,HFN.out,HDf.out,HT.out,HU.out,HV.out,HQ.out,HS.out⟩
       ·go_simp
        have HGX:=yh (zAI w3_3 (.cells #[.int .i64 0,.string ⟨#[]⟩,.int .u64 0,.slice none 0 0,.int .u64 0,.int .u64 0,.string ⟨#[]⟩] 37))
        have HGS:Hid (w2.heap.size≤w3_3.heap.size):=HDc3.out.size
        have hal:=(Below.refl w3_3.heap.size w3_3).alloc (Nat.le_refl _) (.cells #[.int .i64 0,.string ⟨#[]⟩,.int .u64 0,.slice none 0 0,.int .u64 0,.int .u64 0,.string ⟨#[]⟩] 37)
        have ONLYa:Hid (∀ j:Nat,j<w2.heap.size→(w3_3.alloc (.cells #[.int .i64 0,.string ⟨#[]⟩,.int .u64 0,.slice none 0 0,.int .u64 0,.int .u64 0,.string ⟨#[]⟩] 37)).heap[j]? = w2.heap[j]?):=fun j hj =>(hal.block j (Nat.lt_of_lt_of_le hj HDc3.out.size)).trans (ONLYc3.out j hj)
        have HDa:Hid (Below w2.heap.size w2 (w3_3.alloc (.cells #[.int .i64 0,.string ⟨#[]⟩,.int .u64 0,.slice none 0 0,.int .u64 0,.int .u64 0,.string ⟨#[]⟩] 37))):=HDc3.out.trans (hal.mono HDc3.out.size)
        clear hal
        obtain ⟨ga,hga⟩:∃ ga,ga=w3_3.heap.size:=⟨_,rfl⟩
        rw [← hga] at HGX HGS ⊢
        clear hga
        obtain ⟨Wa,hWa⟩:∃ Wa,Wa=w3_3.alloc (.cells #[.int .i64 0,.string ⟨#[]⟩,.int .u64 0,.slice none 0 0,.int .u64 0,.int .u64 0,.string ⟨#[]⟩] 37):=⟨_,rfl⟩
        rw [← hWa] at HGX ONLYa HDa ⊢
        clear hWa
        refine hK _ _ ONLYa.out ?_
        clear hK K
        refine zAJ 19 rfl (by kernel_rfl) (by kernel_rfl) (fun K hK =>?_)
        go_simp
        refine (zBR s (HLE.out _ (by simp)) _).mono ?_
        rintro e w3_4 ⟨⟨h1,rfl⟩ | ⟨h1,rfl⟩,hb⟩
        rotate_left
        ·exact ⟨rfl,.inr ⟨zAa (by rw [HTK.out];simp [lnO,h1]),rfl⟩,(HB2.out.trans (HDa.out.mono HB2.out.size)).trans (hb.mono (HB2.out.trans (HDa.out.mono HB2.out.size)).size)⟩
        have HS:=yh h1
        have ONLYc4:Hid (∀ j:Nat,j<w2.heap.size→w3_4.heap[j]? = w2.heap[j]?):=fun j hj =>(hb.block j (Nat.lt_of_lt_of_le hj HDa.out.size)).trans (ONLYa.out j hj)
        have HDc4:Hid (Below w2.heap.size w2 w3_4):=HDa.out.trans (hb.mono HDa.out.size)
        replace HGX:=yh ((hb.block _ (zAG HGX.out)).trans HGX.out)
        clear h1 hb
        refine hK _ _ ONLYc4.out ?_
        clear hK K
        refine zAB 20 (.agg #[.int .i64 1,.string (tx (eget t).1),.int .u64 ((rans u).1:Int),.slice none 0 0,.int .u64 ((rans o).1:Int),.int .u64 (uq:Int),.string (tx (eget s).1)]) rfl (by kernel_rfl) (by kernel_rfl) (by kernel_rfl) (fun _ _ _ h =>h) (by kernel_rfl) ONLYc4.out (fun _ _ =>by kernel_rfl) ?_
        refine zAJ 22 rfl (by kernel_rfl) (by kernel_rfl) (fun K hK =>?_)
        refine wp_store_row 37 (.tmp 4) (.tmp 33) rfl ga #[.int .i64 1,.string (tx (eget t).1),.int .u64 ((rans u).1:Int),.slice none 0 0,.int .u64 ((rans o).1:Int),.int .u64 (uq:Int),.string (tx (eget s).1)] rfl rfl 37 _ HGX.out (by kernel_rfl) rfl (by simp [Value.oneCell']) ?_
        have hfin:=setRow_heap w3_4 ga _ #[.int .i64 1,.string (tx (eget t).1),.int .u64 ((rans u).1:Int),.slice none 0 0,.int .u64 ((rans o).1:Int),.int .u64 (uq:Int),.string (tx (eget s).1)] _ _ HGX.out
        have hgr:=zBG w3_4 ga #[.int .i64 1,.string (tx (eget t).1),.int .u64 ((rans u).1:Int),.slice none 0 0,.int .u64 ((rans o).1:Int),.int .u64 (uq:Int),.string (tx (eget s).1)]
        have HFN:=yh hfin
        have HDf:=yh (HDc4.out.grown hgr HDc4.out.size (fun k hk =>by injection hk with hk;subst hk;exact HGS.out))
        have ONLYf:Hid (∀ j:Nat,j<w2.heap.size→(w3_4.setRow ga #[.int .i64 1,.string (tx (eget t).1),.int .u64 ((rans u).1:Int),.slice none 0 0,.int .u64 ((rans o).1:Int),.int .u64 (uq:Int),.string (tx (eget s).1)]).heap[j]? = w2.heap[j]?):=fun j hj =>HDf.out.block j hj
        clear hfin hgr
        refine hK _ _ ONLYf.out ?_
        clear hK K
        refine wpAnyH_done (by kernel_rfl) ?_ _
        go_simp
        rw [HM.out]
        exact ⟨_,_,_,_,_,_,_,_,_,_,_,_,_,_,_,_,_,_,_,_,_,_,_,_,rfl,HGS.out,HFN.out,HDf.out,HT.out,HU.out,HV.out,HQ.out,HS.out⟩
      ·go_simp
       have HGX:=yh (zAI w3_2 (.cells #[.int .i64 0,.string ⟨#[]⟩,.int .u64 0,.slice none 0 0,.int .u64 0,.int .u64 0,.string ⟨#[]⟩] 37))
       have HGS:Hid (w2.heap.size≤w3_2.heap.size):=HDc2.out.size
       have hal:=(Below.refl w3_2.heap.size w3_2).alloc (Nat.le_refl _) (.cells #[.int .i64 0,.string ⟨#[]⟩,.int .u64 0,.slice none 0 0,.int .u64 0,.int .u64 0,.string ⟨#[]⟩] 37)
       have ONLYa:Hid (∀ j:Nat,j<w2.heap.size→(w3_2.alloc (.cells #[.int .i64 0,.string ⟨#[]⟩,.int .u64 0,.slice none 0 0,.int .u64 0,.int .u64 0,.string ⟨#[]⟩] 37)).heap[j]? = w2.heap[j]?):=fun j hj =>(hal.block j (Nat.lt_of_lt_of_le hj HDc2.out.size)).trans (ONLYc2.out j hj)
       have HDa:Hid (Below w2.heap.size w2 (w3_2.alloc (.cells #[.int .i64 0,.string ⟨#[]⟩,.int .u64 0,.slice none 0 0,.int .u64 0,.int .u64 0,.string ⟨#[]⟩] 37))):=HDc2.out.trans (hal.mono HDc2.out.size)
       clear hal
       obtain ⟨ga,hga⟩:∃ ga,ga=w3_2.heap.size:=⟨_,rfl⟩
       rw [← hga] at HGX HGS ⊢
       clear hga
       obtain ⟨Wa,hWa⟩:∃ Wa,Wa=w3_2.alloc (.cells #[.int .i64 0,.string ⟨#[]⟩,.int .u64 0,.slice none 0 0,.int .u64 0,.int .u64 0,.string ⟨#[]⟩] 37):=⟨_,rfl⟩
       rw [← hWa] at HGX ONLYa HDa ⊢
       clear hWa
       refine hK _ _ ONLYa.out ?_
       clear hK K
       refine zAJ 15 rfl (by kernel_rfl) (by kernel_rfl) (fun K hK =>?_)
       go_simp
       refine (zBt q (HLE.out _ (by simp)) _ (HE.out.below (HB2.out.trans (HDa.out.mono HB2.out.size)))).mono ?_
       rintro e w3_3 ⟨⟨uq,h1,rfl⟩ | ⟨h1,rfl⟩,hb⟩
       rotate_left
       ·exact ⟨rfl,.inr ⟨zAa (by rw [HTK.out];simp [lnO,h1]),rfl⟩,(HB2.out.trans (HDa.out.mono HB2.out.size)).trans (hb.mono (HB2.out.trans (HDa.out.mono HB2.out.size)).size)⟩
       have HQ:=yh h1
       have ONLYc3:Hid (∀ j:Nat,j<w2.heap.size→w3_3.heap[j]? = w2.heap[j]?):=fun j hj =>(hb.block j (Nat.lt_of_lt_of_le hj HDa.out.size)).trans (ONLYa.out j hj)
       have HDc3:Hid (Below w2.heap.size w2 w3_3):=HDa.out.trans (hb.mono HDa.out.size)
       replace HGX:=yh ((hb.block _ (zAG HGX.out)).trans HGX.out)
       clear h1 hb
       refine hK _ _ ONLYc3.out ?_
       clear hK K
       refine zAJ 19 rfl (by kernel_rfl) (by kernel_rfl) (fun K hK =>?_)
       go_simp
       refine (zBR s (HLE.out _ (by simp)) _).mono ?_
       rintro e w3_4 ⟨⟨h1,rfl⟩ | ⟨h1,rfl⟩,hb⟩
       rotate_left
       ·exact ⟨rfl,.inr ⟨zAa (by rw [HTK.out];simp [lnO,h1]),rfl⟩,(HB2.out.trans (HDc3.out.mono HB2.out.size)).trans (hb.mono (HB2.out.trans (HDc3.out.mono HB2.out.size)).size)⟩
       have HS:=yh h1
       have ONLYc4:Hid (∀ j:Nat,j<w2.heap.size→w3_4.heap[j]? = w2.heap[j]?):=fun j hj =>(hb.block j (Nat.lt_of_lt_of_le hj HDc3.out.size)).trans (ONLYc3.out j hj)
       have HDc4:Hid (Below w2.heap.size w2 w3_4):=HDc3.out.trans (hb.mono HDc3.out.size)
       replace HGX:=yh ((hb.block _ (zAG HGX.out)).trans HGX.out)
       clear h1 hb
       refine hK _ _ ONLYc4.out ?_
       clear hK K
       refine zAB 20 (.agg #[.int .i64 1,.string (tx (eget t).1),.int .u64 ((rans u).1:Int),.slice none 0 0,.int .u64 ((rans o).1:Int),.int .u64 (uq:Int),.string (tx (eget s).1)]) rfl (by kernel_rfl) (by kernel_rfl) (by kernel_rfl) (fun _ _ _ h =>h) (by kernel_rfl) ONLYc4.out (fun _ _ =>by kernel_rfl) ?_
       refine zAJ 22 rfl (by kernel_rfl) (by kernel_rfl) (fun K hK =>?_)
       refine wp_store_row 37 (.tmp 4) (.tmp 33) rfl ga #[.int .i64 1,.string (tx (eget t).1),.int .u64 ((rans u).1:Int),.slice none 0 0,.int .u64 ((rans o).1:Int),.int .u64 (uq:Int),.string (tx (eget s).1)] rfl rfl 37 _ HGX.out (by kernel_rfl) rfl (by simp [Value.oneCell']) ?_
       have hfin:=setRow_heap w3_4 ga _ #[.int .i64 1,.string (tx (eget t).1),.int .u64 ((rans u).1:Int),.slice none 0 0,.int .u64 ((rans o).1:Int),.int .u64 (uq:Int),.string (tx (eget s).1)] _ _ HGX.out
       have hgr:=zBG w3_4 ga #[.int .i64 1,.string (tx (eget t).1),.int .u64 ((rans u).1:Int),.slice none 0 0,.int .u64 ((rans o).1:Int),.int .u64 (uq:Int),.string (tx (eget s).1)]
       have HFN:=yh hfin
       have HDf:=yh (HDc4.out.grown hgr HDc4.out.size (fun k hk =>by injection hk with hk;subst hk;exact HGS.out))
       have ONLYf:Hid (∀ j:Nat,j<w2.heap.size→(w3_4.setRow ga #[.int .i64 1,.string (tx (eget t).1),.int .u64 ((rans u).1:Int),.slice none 0 0,.int .u64 ((rans o).1:Int),.int .u64 (uq:Int),.string (tx (eget s).1)]).heap[j]? = w2.heap[j]?):=fun j hj =>HDf.out.block j hj
       clear hfin hgr
       refine hK _ _ ONLYf.out ?_
       clear hK K
       refine wpAnyH_done (by kernel_rfl) ?_ _
       go_simp
       rw [HM.out]
       exact ⟨_,_,_,_,_,_,_,_,_,_,_,_,_,_,_,_,_,_,_,_,_,_,_,_,rfl,HGS.out,HFN.out,HDf.out,HT.out,HU.out,HV.out,HQ.out,HS.out⟩
     ·go_simp
      have HGX:=yh (zAI w3_1 (.cells #[.int .i64 0,.string ⟨#[]⟩,.int .u64 0,.slice none 0 0,.int .u64 0,.int .u64 0,.string ⟨#[]⟩] 37))
      have HGS:Hid (w2.heap.size≤w3_1.heap.size):=HDc1.out.size
      have hal:=(Below.refl w3_1.heap.size w3_1).alloc (Nat.le_refl _) (.cells #[.int .i64 0,.string ⟨#[]⟩,.int .u64 0,.slice none 0 0,.int .u64 0,.int .u64 0,.string ⟨#[]⟩] 37)
      have ONLYa:Hid (∀ j:Nat,j<w2.heap.size→(w3_1.alloc (.cells #[.int .i64 0,.string ⟨#[]⟩,.int .u64 0,.slice none 0 0,.int .u64 0,.int .u64 0,.string ⟨#[]⟩] 37)).heap[j]? = w2.heap[j]?):=fun j hj =>(hal.block j (Nat.lt_of_lt_of_le hj HDc1.out.size)).trans (ONLYc1.out j hj)
      have HDa:Hid (Below w2.heap.size w2 (w3_1.alloc (.cells #[.int .i64 0,.string ⟨#[]⟩,.int .u64 0,.slice none 0 0,.int .u64 0,.int .u64 0,.string ⟨#[]⟩] 37))):=HDc1.out.trans (hal.mono HDc1.out.size)
      clear hal
      obtain ⟨ga,hga⟩:∃ ga,ga=w3_1.heap.size:=⟨_,rfl⟩
      rw [← hga] at HGX HGS ⊢
      clear hga
      obtain ⟨Wa,hWa⟩:∃ Wa,Wa=w3_1.alloc (.cells #[.int .i64 0,.string ⟨#[]⟩,.int .u64 0,.slice none 0 0,.int .u64 0,.int .u64 0,.string ⟨#[]⟩] 37):=⟨_,rfl⟩
      rw [← hWa] at HGX ONLYa HDa ⊢
      clear hWa
      refine hK _ _ ONLYa.out ?_
      clear hK K
      refine zAJ 11 rfl (by kernel_rfl) (by kernel_rfl) (fun K hK =>?_)
      go_simp
      refine (zBW o (HLE.out _ (by simp)) _).mono ?_
      rintro e w3_2 ⟨⟨h1,rfl⟩ | ⟨h1,rfl⟩,hb⟩
      rotate_left
      ·exact ⟨rfl,.inr ⟨zAa (by rw [HTK.out];simp [lnO,h1]),rfl⟩,(HB2.out.trans (HDa.out.mono HB2.out.size)).trans (hb.mono (HB2.out.trans (HDa.out.mono HB2.out.size)).size)⟩
      have HV:=yh h1
      have ONLYc2:Hid (∀ j:Nat,j<w2.heap.size→w3_2.heap[j]? = w2.heap[j]?):=fun j hj =>(hb.block j (Nat.lt_of_lt_of_le hj HDa.out.size)).trans (ONLYa.out j hj)
      have HDc2:Hid (Below w2.heap.size w2 w3_2):=HDa.out.trans (hb.mono HDa.out.size)
      replace HGX:=yh ((hb.block _ (zAG HGX.out)).trans HGX.out)
      clear h1 hb
      refine hK _ _ ONLYc2.out ?_
      clear hK K
      refine zAJ 15 rfl (by kernel_rfl) (by kernel_rfl) (fun K hK =>?_)
      go_simp
      refine (zBt q (HLE.out _ (by simp)) _ (HE.out.below (HB2.out.trans (HDc2.out.mono HB2.out.size)))).mono ?_
      rintro e w3_3 ⟨⟨uq,h1,rfl⟩ | ⟨h1,rfl⟩,hb⟩
      rotate_left
      ·exact ⟨rfl,.inr ⟨zAa (by rw [HTK.out];simp [lnO,h1]),rfl⟩,(HB2.out.trans (HDc2.out.mono HB2.out.size)).trans (hb.mono (HB2.out.trans (HDc2.out.mono HB2.out.size)).size)⟩
      have HQ:=yh h1
      have ONLYc3:Hid (∀ j:Nat,j<w2.heap.size→w3_3.heap[j]? = w2.heap[j]?):=fun j hj =>(hb.block j (Nat.lt_of_lt_of_le hj HDc2.out.size)).trans (ONLYc2.out j hj)
      have HDc3:Hid (Below w2.heap.size w2 w3_3):=HDc2.out.trans (hb.mono HDc2.out.size)
      replace HGX:=yh ((hb.block _ (zAG HGX.out)).trans HGX.out)
      clear h1 hb
      refine hK _ _ ONLYc3.out ?_
      clear hK K
      refine zAJ 19 rfl (by kernel_rfl) (by kernel_rfl) (fun K hK =>?_)
      go_simp
      refine (zBR s (HLE.out _ (by simp)) _).mono ?_
      rintro e w3_4 ⟨⟨h1,rfl⟩ | ⟨h1,rfl⟩,hb⟩
      rotate_left
      ·exact ⟨rfl,.inr ⟨zAa (by rw [HTK.out];simp [lnO,h1]),rfl⟩,(HB2.out.trans (HDc3.out.mono HB2.out.size)).trans (hb.mono (HB2.out.trans (HDc3.out.mono HB2.out.size)).size)⟩
      have HS:=yh h1
      have ONLYc4:Hid (∀ j:Nat,j<w2.heap.size→w3_4.heap[j]? = w2.heap[j]?):=fun j hj =>(hb.block j (Nat.lt_of_lt_of_le hj HDc3.out.size)).trans (ONLYc3.out j hj)
      have HDc4:Hid (Below w2.heap.size w2 w3_4):=HDc3.out.trans (hb.mono HDc3.out.size)
      replace HGX:=yh ((hb.block _ (zAG HGX.out)).trans HGX.out)
      clear h1 hb
      refine hK _ _ ONLYc4.out ?_
      clear hK K
      refine zAB 20 (.agg #[.int .i64 1,.string (tx (eget t).1),.int .u64 ((rans u).1:Int),.slice none 0 0,.int .u64 ((rans o).1:Int),.int .u64 (uq:Int),.string (tx (eget s).1)]) rfl (by kernel_rfl) (by kernel_rfl) (by kernel_rfl) (fun _ _ _ h =>h) (by kernel_rfl) ONLYc4.out (fun _ _ =>by kernel_rfl) ?_
      refine zAJ 22 rfl (by kernel_rfl) (by kernel_rfl) (fun K hK =>?_)
      refine wp_store_row 37 (.tmp 4) (.tmp 33) rfl ga #[.int .i64 1,.string (tx (eget t).1),.int .u64 ((rans u).1:Int),.slice none 0 0,.int .u64 ((rans o).1:Int),.int .u64 (uq:Int),.string (tx (eget s).1)] rfl rfl 37 _ HGX.out (by kernel_rfl) rfl (by simp [Value.oneCell']) ?_
      have hfin:=setRow_heap w3_4 ga _ #[.int .i64 1,.string (tx (eget t).1),.int .u64 ((rans u).1:Int),.slice none 0 0,.int .u64 ((rans o).1:Int),.int .u64 (uq:Int),.string (tx (eget s).1)] _ _ HGX.out
      have hgr:=zBG w3_4 ga #[.int .i64 1,.string (tx (eget t).1),.int .u64 ((rans u).1:Int),.slice none 0 0,.int .u64 ((rans o).1:Int),.int .u64 (uq:Int),.string (tx (eget s).1)]
      have HFN:=yh hfin
      have HDf:=yh (HDc4.out.grown hgr HDc4.out.size (fun k hk =>by injection hk with hk;subst hk;exact HGS.out))
      have ONLYf:Hid (∀ j:Nat,j<w2.heap.size→(w3_4.setRow ga #[.int .i64 1,.string (tx (eget t).1),.int .u64 ((rans u).1:Int),.slice none 0 0,.int .u64 ((rans o).1:Int),.int .u64 (uq:Int),.string (tx (eget s).1)]).heap[j]? = w2.heap[j]?):=fun j hj =>HDf.out.block j hj
      clear hfin hgr
      refine hK _ _ ONLYf.out ?_
      clear hK K
      refine wpAnyH_done (by kernel_rfl) ?_ _
      go_simp
      rw [HM.out]
      exact ⟨_,_,_,_,_,_,_,_,_,_,_,_,_,_,_,_,_,_,_,_,_,_,_,_,rfl,HGS.out,HFN.out,HDf.out,HT.out,HU.out,HV.out,HQ.out,HS.out⟩
    ·go_simp
     have HGX:=yh (zAI w3_0 (.cells #[.int .i64 0,.string ⟨#[]⟩,.int .u64 0,.slice none 0 0,.int .u64 0,.int .u64 0,.string ⟨#[]⟩] 37))
     have HGS:Hid (w2.heap.size≤w3_0.heap.size):=HDc0.out.size
     have hal:=(Below.refl w3_0.heap.size w3_0).alloc (Nat.le_refl _) (.cells #[.int .i64 0,.string ⟨#[]⟩,.int .u64 0,.slice none 0 0,.int .u64 0,.int .u64 0,.string ⟨#[]⟩] 37)
     have ONLYa:Hid (∀ j:Nat,j<w2.heap.size→(w3_0.alloc (.cells #[.int .i64 0,.string ⟨#[]⟩,.int .u64 0,.slice none 0 0,.int .u64 0,.int .u64 0,.string ⟨#[]⟩] 37)).heap[j]? = w2.heap[j]?):=fun j hj =>(hal.block j (Nat.lt_of_lt_of_le hj HDc0.out.size)).trans (ONLYc0.out j hj)
     have HDa:Hid (Below w2.heap.size w2 (w3_0.alloc (.cells #[.int .i64 0,.string ⟨#[]⟩,.int .u64 0,.slice none 0 0,.int .u64 0,.int .u64 0,.string ⟨#[]⟩] 37))):=HDc0.out.trans (hal.mono HDc0.out.size)
     clear hal
     obtain ⟨ga,hga⟩:∃ ga,ga=w3_0.heap.size:=⟨_,rfl⟩
     rw [← hga] at HGX HGS ⊢
     clear hga
     obtain ⟨Wa,hWa⟩:∃ Wa,Wa=w3_0.alloc (.cells #[.int .i64 0,.string ⟨#[]⟩,.int .u64 0,.slice none 0 0,.int .u64 0,.int .u64 0,.string ⟨#[]⟩] 37):=⟨_,rfl⟩
     rw [← hWa] at HGX ONLYa HDa ⊢
     clear hWa
     refine hK _ _ ONLYa.out ?_
     clear hK K
     refine zAJ 7 rfl (by kernel_rfl) (by kernel_rfl) (fun K hK =>?_)
     go_simp
     refine (zBW u (HLE.out _ (by simp)) _).mono ?_
     rintro e w3_1 ⟨⟨h1,rfl⟩ | ⟨h1,rfl⟩,hb⟩
     rotate_left
     ·exact ⟨rfl,.inr ⟨zAa (by rw [HTK.out];simp [lnO,h1]),rfl⟩,(HB2.out.trans (HDa.out.mono HB2.out.size)).trans (hb.mono (HB2.out.trans (HDa.out.mono HB2.out.size)).size)⟩
     have HU:=yh h1
     have ONLYc1:Hid (∀ j:Nat,j<w2.heap.size→w3_1.heap[j]? = w2.heap[j]?):=fun j hj =>(hb.block j (Nat.lt_of_lt_of_le hj HDa.out.size)).trans (ONLYa.out j hj)
     have HDc1:Hid (Below w2.heap.size w2 w3_1):=HDa.out.trans (hb.mono HDa.out.size)
     replace HGX:=yh ((hb.block _ (zAG HGX.out)).trans HGX.out)
     clear h1 hb
     refine hK _ _ ONLYc1.out ?_
     clear hK K
     refine zAJ 11 rfl (by kernel_rfl) (by kernel_rfl) (fun K hK =>?_)
     go_simp
     refine (zBW o (HLE.out _ (by simp)) _).mono ?_
     rintro e w3_2 ⟨⟨h1,rfl⟩ | ⟨h1,rfl⟩,hb⟩
     rotate_left
     ·exact ⟨rfl,.inr ⟨zAa (by rw [HTK.out];simp [lnO,h1]),rfl⟩,(HB2.out.trans (HDc1.out.mono HB2.out.size)).trans (hb.mono (HB2.out.trans (HDc1.out.mono HB2.out.size)).size)⟩
     have HV:=yh h1
     have ONLYc2:Hid (∀ j:Nat,j<w2.heap.size→w3_2.heap[j]? = w2.heap[j]?):=fun j hj =>(hb.block j (Nat.lt_of_lt_of_le hj HDc1.out.size)).trans (ONLYc1.out j hj)
     have HDc2:Hid (Below w2.heap.size w2 w3_2):=HDc1.out.trans (hb.mono HDc1.out.size)
     replace HGX:=yh ((hb.block _ (zAG HGX.out)).trans HGX.out)
     clear h1 hb
     refine hK _ _ ONLYc2.out ?_
     clear hK K
     refine zAJ 15 rfl (by kernel_rfl) (by kernel_rfl) (fun K hK =>?_)
     go_simp
     refine (zBt q (HLE.out _ (by simp)) _ (HE.out.below (HB2.out.trans (HDc2.out.mono HB2.out.size)))).mono ?_
     rintro e w3_3 ⟨⟨uq,h1,rfl⟩ | ⟨h1,rfl⟩,hb⟩
     rotate_left
     ·exact ⟨rfl,.inr ⟨zAa (by rw [HTK.out];simp [lnO,h1]),rfl⟩,(HB2.out.trans (HDc2.out.mono HB2.out.size)).trans (hb.mono (HB2.out.trans (HDc2.out.mono HB2.out.size)).size)⟩
     have HQ:=yh h1
     have ONLYc3:Hid (∀ j:Nat,j<w2.heap.size→w3_3.heap[j]? = w2.heap[j]?):=fun j hj =>(hb.block j (Nat.lt_of_lt_of_le hj HDc2.out.size)).trans (ONLYc2.out j hj)
     have HDc3:Hid (Below w2.heap.size w2 w3_3):=HDc2.out.trans (hb.mono HDc2.out.size)
     replace HGX:=yh ((hb.block _ (zAG HGX.out)).trans HGX.out)
     clear h1 hb
     refine hK _ _ ONLYc3.out ?_
     clear hK K
     refine zAJ 19 rfl (by kernel_rfl) (by kernel_rfl) (fun K hK =>?_)
     go_simp
     refine (zBR s (HLE.out _ (by simp)) _).mono ?_
     rintro e w3_4 ⟨⟨h1,rfl⟩ | ⟨h1,rfl⟩,hb⟩
     rotate_left
     ·exact ⟨rfl,.inr ⟨zAa (by rw [HTK.out];simp [lnO,h1]),rfl⟩,(HB2.out.trans (HDc3.out.mono HB2.out.size)).trans (hb.mono (HB2.out.trans (HDc3.out.mono HB2.out.size)).size)⟩
     have HS:=yh h1
     have ONLYc4:Hid (∀ j:Nat,j<w2.heap.size→w3_4.heap[j]? = w2.heap[j]?):=fun j hj =>(hb.block j (Nat.lt_of_lt_of_le hj HDc3.out.size)).trans (ONLYc3.out j hj)
     have HDc4:Hid (Below w2.heap.size w2 w3_4):=HDc3.out.trans (hb.mono HDc3.out.size)
     replace HGX:=yh ((hb.block _ (zAG HGX.out)).trans HGX.out)
     clear h1 hb
     refine hK _ _ ONLYc4.out ?_
     clear hK K
     refine zAB 20 (.agg #[.int .i64 1,.string (tx (eget t).1),.int .u64 ((rans u).1:Int),.slice none 0 0,.int .u64 ((rans o).1:Int),.int .u64 (uq:Int),.string (tx (eget s).1)]) rfl (by kernel_rfl) (by kernel_rfl) (by kernel_rfl) (fun _ _ _ h =>h) (by kernel_rfl) ONLYc4.out (fun _ _ =>by kernel_rfl) ?_
     refine zAJ 22 rfl (by kernel_rfl) (by kernel_rfl) (fun K hK =>?_)
     refine wp_store_row 37 (.tmp 4) (.tmp 33) rfl ga #[.int .i64 1,.string (tx (eget t).1),.int .u64 ((rans u).1:Int),.slice none 0 0,.int .u64 ((rans o).1:Int),.int .u64 (uq:Int),.string (tx (eget s).1)] rfl rfl 37 _ HGX.out (by kernel_rfl) rfl (by simp [Value.oneCell']) ?_
     have hfin:=setRow_heap w3_4 ga _ #[.int .i64 1,.string (tx (eget t).1),.int .u64 ((rans u).1:Int),.slice none 0 0,.int .u64 ((rans o).1:Int),.int .u64 (uq:Int),.string (tx (eget s).1)] _ _ HGX.out
     have hgr:=zBG w3_4 ga #[.int .i64 1,.string (tx (eget t).1),.int .u64 ((rans u).1:Int),.slice none 0 0,.int .u64 ((rans o).1:Int),.int .u64 (uq:Int),.string (tx (eget s).1)]
     have HFN:=yh hfin
     have HDf:=yh (HDc4.out.grown hgr HDc4.out.size (fun k hk =>by injection hk with hk;subst hk;exact HGS.out))
     have ONLYf:Hid (∀ j:Nat,j<w2.heap.size→(w3_4.setRow ga #[.int .i64 1,.string (tx (eget t).1),.int .u64 ((rans u).1:Int),.slice none 0 0,.int .u64 ((rans o).1:Int),.int .u64 (uq:Int),.string (tx (eget s).1)]).heap[j]? = w2.heap[j]?):=fun j hj =>HDf.out.block j hj
     clear hfin hgr
     refine hK _ _ ONLYf.out ?_
     clear hK K
     refine wpAnyH_done (by kernel_rfl) ?_ _
     go_simp
     rw [HM.out]
     exact ⟨_,_,_,_,_,_,_,_,_,_,_,_,_,_,_,_,_,_,_,_,_,_,_,_,rfl,HGS.out,HFN.out,HDf.out,HT.out,HU.out,HV.out,HQ.out,HS.out⟩
   ·go_simp
    have HGX:=yh (zAI W0 (.cells #[.int .i64 0,.string ⟨#[]⟩,.int .u64 0,.slice none 0 0,.int .u64 0,.int .u64 0,.string ⟨#[]⟩] 37))
    have HGS:Hid (w2.heap.size≤W0.heap.size):=HD.out.size
    have hal:=(Below.refl W0.heap.size W0).alloc (Nat.le_refl _) (.cells #[.int .i64 0,.string ⟨#[]⟩,.int .u64 0,.slice none 0 0,.int .u64 0,.int .u64 0,.string ⟨#[]⟩] 37)
    have ONLYa:Hid (∀ j:Nat,j<w2.heap.size→(W0.alloc (.cells #[.int .i64 0,.string ⟨#[]⟩,.int .u64 0,.slice none 0 0,.int .u64 0,.int .u64 0,.string ⟨#[]⟩] 37)).heap[j]? = w2.heap[j]?):=fun j hj =>(hal.block j (Nat.lt_of_lt_of_le hj HD.out.size)).trans (ONLY.out j hj)
    have HDa:Hid (Below w2.heap.size w2 (W0.alloc (.cells #[.int .i64 0,.string ⟨#[]⟩,.int .u64 0,.slice none 0 0,.int .u64 0,.int .u64 0,.string ⟨#[]⟩] 37))):=HD.out.trans (hal.mono HD.out.size)
    clear hal
    obtain ⟨ga,hga⟩:∃ ga,ga=W0.heap.size:=⟨_,rfl⟩
    rw [← hga] at HGX HGS ⊢
    clear hga
    obtain ⟨Wa,hWa⟩:∃ Wa,Wa=W0.alloc (.cells #[.int .i64 0,.string ⟨#[]⟩,.int .u64 0,.slice none 0 0,.int .u64 0,.int .u64 0,.string ⟨#[]⟩] 37):=⟨_,rfl⟩
    rw [← hWa] at HGX ONLYa HDa ⊢
    clear hWa
    refine hK _ _ ONLYa.out ?_
    clear hK K
    refine zAJ 3 rfl (by kernel_rfl) (by kernel_rfl) (fun K hK =>?_)
    go_simp
    refine (zBR t (HLE.out _ (by simp)) _).mono ?_
    rintro e w3_0 ⟨⟨h1,rfl⟩ | ⟨h1,rfl⟩,hb⟩
    rotate_left
    ·exact ⟨rfl,.inr ⟨zAa (by rw [HTK.out];simp [lnO,h1]),rfl⟩,(HB2.out.trans (HDa.out.mono HB2.out.size)).trans (hb.mono (HB2.out.trans (HDa.out.mono HB2.out.size)).size)⟩
    have HT:=yh h1
    have ONLYc0:Hid (∀ j:Nat,j<w2.heap.size→w3_0.heap[j]? = w2.heap[j]?):=fun j hj =>(hb.block j (Nat.lt_of_lt_of_le hj HDa.out.size)).trans (ONLYa.out j hj)
    have HDc0:Hid (Below w2.heap.size w2 w3_0):=HDa.out.trans (hb.mono HDa.out.size)
    replace HGX:=yh ((hb.block _ (zAG HGX.out)).trans HGX.out)
    clear h1 hb
    refine hK _ _ ONLYc0.out ?_
    clear hK K
    refine zAJ 7 rfl (by kernel_rfl) (by kernel_rfl) (fun K hK =>?_)
    go_simp
    refine (zBW u (HLE.out _ (by simp)) _).mono ?_
    rintro e w3_1 ⟨⟨h1,rfl⟩ | ⟨h1,rfl⟩,hb⟩
    rotate_left
    ·exact ⟨rfl,.inr ⟨zAa (by rw [HTK.out];simp [lnO,h1]),rfl⟩,(HB2.out.trans (HDc0.out.mono HB2.out.size)).trans (hb.mono (HB2.out.trans (HDc0.out.mono HB2.out.size)).size)⟩
    have HU:=yh h1
    have ONLYc1:Hid (∀ j:Nat,j<w2.heap.size→w3_1.heap[j]? = w2.heap[j]?):=fun j hj =>(hb.block j (Nat.lt_of_lt_of_le hj HDc0.out.size)).trans (ONLYc0.out j hj)
    have HDc1:Hid (Below w2.heap.size w2 w3_1):=HDc0.out.trans (hb.mono HDc0.out.size)
    replace HGX:=yh ((hb.block _ (zAG HGX.out)).trans HGX.out)
    clear h1 hb
    refine hK _ _ ONLYc1.out ?_
    clear hK K
    refine zAJ 11 rfl (by kernel_rfl) (by kernel_rfl) (fun K hK =>?_)
    go_simp
    refine (zBW o (HLE.out _ (by simp)) _).mono ?_
    rintro e w3_2 ⟨⟨h1,rfl⟩ | ⟨h1,rfl⟩,hb⟩
    rotate_left
    ·exact ⟨rfl,.inr ⟨zAa (by rw [HTK.out];simp [lnO,h1]),rfl⟩,(HB2.out.trans (HDc1.out.mono HB2.out.size)).trans (hb.mono (HB2.out.trans (HDc1.out.mono HB2.out.size)).size)⟩
    have HV:=yh h1
    have ONLYc2:Hid (∀ j:Nat,j<w2.heap.size→w3_2.heap[j]? = w2.heap[j]?):=fun j hj =>(hb.block j (Nat.lt_of_lt_of_le hj HDc1.out.size)).trans (ONLYc1.out j hj)
    have HDc2:Hid (Below w2.heap.size w2 w3_2):=HDc1.out.trans (hb.mono HDc1.out.size)
    replace HGX:=yh ((hb.block _ (zAG HGX.out)).trans HGX.out)
    clear h1 hb
    refine hK _ _ ONLYc2.out ?_
    clear hK K
    refine zAJ 15 rfl (by kernel_rfl) (by kernel_rfl) (fun K hK =>?_)
    go_simp
    refine (zBt q (HLE.out _ (by simp)) _ (HE.out.below (HB2.out.trans (HDc2.out.mono HB2.out.size)))).mono ?_
    rintro e w3_3 ⟨⟨uq,h1,rfl⟩ | ⟨h1,rfl⟩,hb⟩
    rotate_left
    ·exact ⟨rfl,.inr ⟨zAa (by rw [HTK.out];simp [lnO,h1]),rfl⟩,(HB2.out.trans (HDc2.out.mono HB2.out.size)).trans (hb.mono (HB2.out.trans (HDc2.out.mono HB2.out.size)).size)⟩
    have HQ:=yh h1
    have ONLYc3:Hid (∀ j:Nat,j<w2.heap.size→w3_3.heap[j]? = w2.heap[j]?):=fun j hj =>(hb.block j (Nat.lt_of_lt_of_le hj HDc2.out.size)).trans (ONLYc2.out j hj)
    have HDc3:Hid (Below w2.heap.size w2 w3_3):=HDc2.out.trans (hb.mono HDc2.out.size)
    replace HGX:=yh ((hb.block _ (zAG HGX.out)).trans HGX.out)
    clear h1 hb
    refine hK _ _ ONLYc3.out ?_
    clear hK K
    refine zAJ 19 rfl (by kernel_rfl) (by kernel_rfl) (fun K hK =>?_)
    go_simp
    refine (zBR s (HLE.out _ (by simp)) _).mono ?_
    rintro e w3_4 ⟨⟨h1,rfl⟩ | ⟨h1,rfl⟩,hb⟩
    rotate_left
    ·exact ⟨rfl,.inr ⟨zAa (by rw [HTK.out];simp [lnO,h1]),rfl⟩,(HB2.out.trans (HDc3.out.mono HB2.out.size)).trans (hb.mono (HB2.out.trans (HDc3.out.mono HB2.out.size)).size)⟩
    have HS:=yh h1
    have ONLYc4:Hid (∀ j:Nat,j<w2.heap.size→w3_4.heap[j]? = w2.heap[j]?):=fun j hj =>(hb.block j (Nat.lt_of_lt_of_le hj HDc3.out.size)).trans (ONLYc3.out j hj)
    have HDc4:Hid (Below w2.heap.size w2 w3_4):=HDc3.out.trans (hb.mono HDc3.out.size)
    replace HGX:=yh ((hb.block _ (zAG HGX.out)).trans HGX.out)
    clear h1 hb
    refine hK _ _ ONLYc4.out ?_
    clear hK K
    refine zAB 20 (.agg #[.int .i64 1,.string (tx (eget t).1),.int .u64 ((rans u).1:Int),.slice none 0 0,.int .u64 ((rans o).1:Int),.int .u64 (uq:Int),.string (tx (eget s).1)]) rfl (by kernel_rfl) (by kernel_rfl) (by kernel_rfl) (fun _ _ _ h =>h) (by kernel_rfl) ONLYc4.out (fun _ _ =>by kernel_rfl) ?_
    refine zAJ 22 rfl (by kernel_rfl) (by kernel_rfl) (fun K hK =>?_)
    refine wp_store_row 37 (.tmp 4) (.tmp 33) rfl ga #[.int .i64 1,.string (tx (eget t).1),.int .u64 ((rans u).1:Int),.slice none 0 0,.int .u64 ((rans o).1:Int),.int .u64 (uq:Int),.string (tx (eget s).1)] rfl rfl 37 _ HGX.out (by kernel_rfl) rfl (by simp [Value.oneCell']) ?_
    have hfin:=setRow_heap w3_4 ga _ #[.int .i64 1,.string (tx (eget t).1),.int .u64 ((rans u).1:Int),.slice none 0 0,.int .u64 ((rans o).1:Int),.int .u64 (uq:Int),.string (tx (eget s).1)] _ _ HGX.out
    have hgr:=zBG w3_4 ga #[.int .i64 1,.string (tx (eget t).1),.int .u64 ((rans u).1:Int),.slice none 0 0,.int .u64 ((rans o).1:Int),.int .u64 (uq:Int),.string (tx (eget s).1)]
    have HFN:=yh hfin
    have HDf:=yh (HDc4.out.grown hgr HDc4.out.size (fun k hk =>by injection hk with hk;subst hk;exact HGS.out))
    have ONLYf:Hid (∀ j:Nat,j<w2.heap.size→(w3_4.setRow ga #[.int .i64 1,.string (tx (eget t).1),.int .u64 ((rans u).1:Int),.slice none 0 0,.int .u64 ((rans o).1:Int),.int .u64 (uq:Int),.string (tx (eget s).1)]).heap[j]? = w2.heap[j]?):=fun j hj =>HDf.out.block j hj
    clear hfin hgr
    refine hK _ _ ONLYf.out ?_
    clear hK K
    refine wpAnyH_done (by kernel_rfl) ?_ _
    go_simp
    rw [HM.out]
    exact ⟨_,_,_,_,_,_,_,_,_,_,_,_,_,_,_,_,_,_,_,_,_,_,_,_,rfl,HGS.out,HFN.out,HDf.out,HT.out,HU.out,HV.out,HQ.out,HS.out⟩
end Go.Proofs.YtgoklhoaedceaaaGreatDoor
