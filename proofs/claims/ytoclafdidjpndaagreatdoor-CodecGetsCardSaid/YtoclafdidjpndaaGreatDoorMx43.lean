/- Texts of one proof. -/
import Derived.Test.YtoclafdidjpndaaGreatDoorMx42
set_option maxRecDepth 100000
set_option maxHeartbeats 8000000
namespace Go.Proofs.YtoclafdidjpndaaGreatDoor
open Go.RowKit
def zBq (F:List (List UInt8×Nat)) (nx:Nat):Nat:=((F[nx - 1]?).map (·.2)).getD 0
def zAw (F:List (List UInt8×Nat)) (xs:List Rdd):Nat:=xs.foldl (fun _ x =>zBq F x.2.2) 8
theorem zCg (F:List (List UInt8×Nat)) (xs:List Rdd) (x:Rdd):zAw F (xs++[x])=zBq F x.2.2:=by unfold zAw;rw [List.foldl_append];rfl
def sayR (x:Rdd):Rc×List Dp:=(x.1,x.2.1)
def endV (F:List (List UInt8×Nat)) (x:Rdd):Value:=inv (zBq F x.2.2)
structure zBp (F:List (List UInt8×Nat)) (xs:List Rdd) (base:Nat) (va ve:Value) (zs:List Rw) (w:World):Prop where
 recs:w.ownsRow base 45 7 va xs.length (rws zs)
 say:zs.map Rw.say=xs.map sayR
 deps:∀ z ∈ zs,w.ownsRow base 73 3 (.slice z.A z.n z.c) z.n (dps z.l)
 ends:w.ownsRow base 3 1 ve xs.length (xs.map (endV F))
theorem zBp.below {F:List (List UInt8×Nat)} {xs:List Rdd} {base:Nat} {va ve:Value} {zs:List Rw} {w w':World} (h:zBp F xs base va ve zs w) (hb:Below w.heap.size w w'):zBp F xs base va ve zs w' :=
 ⟨zAF h.recs hb,h.say,fun z hz =>zAF (h.deps z hz) hb,zAF h.ends hb⟩
theorem zBp.other {F:List (List UInt8×Nat)} {xs:List Rdd} {base g:Nat} {va ve:Value} {zs:List Rw} {w w':World} {cs:Array Value} {t:TypeId} {f:Nat×Nat} (h:zBp F xs base va ve zs w) (hg:w.grownBy w' (some g)) (hh:w.heap[g]? = some (.cells cs t f)) (h1:45≠t) (h2:73≠t) (h3:3≠t):zBp F xs base va ve zs w' :=
 ⟨zCF h.recs hg (zAQ h.recs hh h1),h.say,fun z hz =>zCF (h.deps z hz) hg (zAQ (h.deps z hz) hh h2),zCF h.ends hg (zAQ h.ends hh h3)⟩
theorem zLI (bs:List UInt8) (hn:bs.length≤1073741824) (he:(vg bs).2≠0) (w:World) :
  Calls Tryz.prog 11 #[.string (tx bs)] w fun e w' =>e=.returned (.tuple #[.agg #[.int .i64 0,.slice none 0 0,.slice none 0 0,.int .i64 0],.int .i64 ((vg bs).2:Int)])∧Below w.heap.size w w':=by
 have HV:=yh (zFW bs hn)
 obtain ⟨vv,hvv⟩:∃ vv,vv=(vg bs).1:=⟨_,rfl⟩
 obtain ⟨ee,hee⟩:∃ ee,ee=(vg bs).2:=⟨_,rfl⟩
 rw [← hvv,← hee] at HV
 rw [← hee] at he ⊢
 have h0:=zAG w (.cells #[.int .i64 0,.slice none 0 0,.slice none 0 0,.int .i64 0] 37)
 have HA:=yh h0
 have HB:=yh ((Below.refl w.heap.size w).alloc (Nat.le_refl _) (.cells #[.int .i64 0,.slice none 0 0,.slice none 0 0,.int .i64 0] 37))
 have he1:¬ ((ee:Int)=0):=by omega
 have he2:((ee:Int) == 0)=false:=by simpa using he1
 clear h0 hvv hee
 go_enter Tryz.func11,Tryz.ntmps11
 go_wp2_with fail
 refine (HV.out _).mono ?_
 rintro e w2 ⟨rfl,hb⟩
 have HB2:=yh (HB.out.trans (hb.mono HB.out.size))
 have hx:=(hb.block w.heap.size (zAO HA.out)).trans HA.out
 have HX:=yh hx
 have q0:=zAA (i:=0) hx rfl;have y0:=zAC (i:=0) hx;have q1:=zAA (i:=1) hx rfl;have y1:=zAC (i:=1) hx;have q2:=zAA (i:=2) hx rfl;have y2:=zAC (i:=2) hx;have q3:=zAA (i:=3) hx rfl;have y3:=zAC (i:=3) hx
 clear hx hb
 go_wp2
 refine bodyPost_ret (zAy Tryz.results11 _ _ w.heap.size _ _ (0,0) _ rfl (zAD (zAD (zAD (zAD HX.out 0 (.int .i64 0)) 1 (.slice none 0 0)) 2 (.slice none 0 0)) 3 (.int .i64 0)) Tryz.underlying37 rfl (by kernel_rfl)) rfl ?_
 exact ⟨rfl,(((HB2.out.setCell (p:=⟨w.heap.size,0,none⟩) (Nat.le_refl _) _).setCell (p:=⟨w.heap.size,1,none⟩) (Nat.le_refl _) _).setCell (p:=⟨w.heap.size,2,none⟩) (Nat.le_refl _) _).setCell (p:=⟨w.heap.size,3,none⟩) (Nat.le_refl _) _⟩
structure zDa (w w5:World) (ver:Int) (vv:Int) (b6:Nat) (F:List (List UInt8×Nat)) (xs:List Rdd) (va:Value) (wr:World):Prop where
 table:Own wr w5.heap.size va (tbO ver xs)
 rows:∃ (A E:Option Addr) (c d:Nat) (zs:List Rw),wr.heap[b6]? = some (.cells #[.int .i64 vv,.slice A xs.length c,.slice E xs.length d,.int .i64 (zAw F xs:Int)] 37 (0,0))∧zBp F xs w5.heap.size (.slice A xs.length c) (.slice E xs.length d) zs wr
 keep:∀ k,k<w5.heap.size→k≠b6→wr.heap[k]? = w5.heap[k]?
 b:Below w.heap.size w wr
 sz:w5.heap.size≤wr.heap.size
theorem zDV {W:World} {b g:Nat} (h:g≠b) (i j:Nat) (u0 u1:Value):((W.setCell ⟨b,i,none⟩ u0).setCell ⟨b,j,none⟩ u1).heap[g]? = W.heap[g]?:=by
 simp [World.setCell,Array.getElem?_modify,Ne.symm h]
theorem zBe {W:World} {b g:Nat} (h:g≠b) (i:Nat) (u0:Value):(W.setCell ⟨b,i,none⟩ u0).heap[g]? = W.heap[g]?:=by
 simp [World.setCell,Array.getElem?_modify,Ne.symm h]
theorem zGD {w w5 w8:World} {ver vi:Int} {b6 i:Nat} {F:List (List UInt8×Nat)} {xs:List Rdd} {zs2:List Rw} {vt e0 g0:Value} {A2 E2:Option Addr} {c2 d2 ev:Nat} {ft:TypeId} (hft:ft=37)
  (hln:(xs.take (i+1)).length=i+1)
  (hX8:w8.heap[b6]? = some (.cells #[.int .i64 vi,.slice A2 (i+1) c2,e0,g0] ft (0,0)))
  (hRC:w8.ownsRow w5.heap.size 45 7 (.slice A2 (i+1) c2) (i+1) (rws zs2)) (hsay:zs2.map Rw.say=(xs.take (i+1)).map sayR)
  (hDP:∀ z ∈ zs2,w8.ownsRow w5.heap.size 73 3 (.slice z.A z.n z.c) z.n (dps z.l))
  (hE:w8.ownsRow w5.heap.size 3 1 (.slice E2 (i+1) d2) (i+1) ((xs.take (i+1)).map (endV F)))
  (hT:Own w8 w5.heap.size vt (tbO ver (xs.take (i+1)))) (hK:∀ k,k<w5.heap.size→k≠b6→w8.heap[k]? = w5.heap[k]?) (hB:Below w.heap.size w w8) (hS:w5.heap.size≤w8.heap.size) (hb6:w.heap.size≤b6)
  (hg:zAw F (xs.take (i+1))=ev) :
  zDa w w5 ver vi b6 F (xs.take (i+1)) vt ((w8.setCell ⟨b6,2,none⟩ (.slice E2 (i+1) d2)).setCell ⟨b6,3,none⟩ (.int .i64 (ev:Int))):=by
 subst hft
 have n1:=zAQ hRC hX8 (by decide)
 have n3:=zAQ hE hX8 (by decide)
 have n4:=zAQ hT hX8 (by decide)
 refine ⟨zAT hT (fun g h =>zDV (fun e =>n4 (by rw [← e];exact h)) 2 3 _ _),⟨A2,E2,c2,d2,zs2,?_,?_⟩,fun k hk hne =>(zDV hne 2 3 _ _).trans (hK k hk hne),(hB.setCell (p:=⟨b6,2,none⟩) hb6 _).setCell (p:=⟨b6,3,none⟩) hb6 _,by simpa using hS⟩
 ·rw [hln,hg]
  exact zAD (zAD hX8 2 _) 3 _
 ·rw [hln]
  exact ⟨by rw [hln];exact zAT hRC (fun g h =>zDV (fun e =>n1 (by rw [← e];exact h)) 2 3 _ _),hsay,fun z hz =>zAT (hDP z hz) (fun g h =>zDV (fun e =>zAQ (hDP z hz) hX8 (by decide) (by rw [← e];exact h)) 2 3 _ _),by rw [hln];exact zAT hE (fun g h =>zDV (fun e =>n3 (by rw [← e];exact h)) 2 3 _ _)⟩
theorem zBp.less {F:List (List UInt8×Nat)} {xs:List Rdd} {base base':Nat} {va ve:Value} {zs:List Rw} {w:World} (h:zBp F xs base va ve zs w) (hb:base'≤base):zBp F xs base' va ve zs w :=
 ⟨zAY h.recs hb,h.say,fun z hz =>zAY (h.deps z hz) hb,zAY h.ends hb⟩
theorem zGH {W:World} {b:Nat} (u0 u1 u2 u3:Value):W.grownBy ((((W.setCell ⟨b,0,none⟩ u0).setCell ⟨b,1,none⟩ u1).setCell ⟨b,2,none⟩ u2).setCell ⟨b,3,none⟩ u3) (some b) :=
 ⟨rfl,rfl,rfl,by simp,fun k _ hk =>by
  have h:k≠b:=fun e =>hk (by rw [e])
  simp [World.setCell,Array.getElem?_modify,Ne.symm h]⟩
theorem zMb (bs:List UInt8) (hn:bs.length≤1073741824) (v:Nat) (hv:vg bs=(v,0)) (F:List (List UInt8×Nat)) (hF:F=frun (bs.length+1) 8 bs) (hFl:F.length≤1000) (ps:List (List UInt8)) (hps:ps=F.map (·.1)) (xs:List Rdd)
  (hud:∀ (i:Nat) (x:Rdd),xs[i]? = some x→atO (xs.take i)<x.2.2∧x.2.2≤ps.length∧UD (v:Int) (tbO (v:Int) (xs.take i)) ps (atO (xs.take i):Int) x.1 x.2.1 (x.2.2:Int) 0 (tabT (v:Int) (tbO (v:Int) (xs.take i)) x.1 x.2.1))
  (hxl:xs.length≤1000) (e9:Int) (he9:e9≠0) (hstop:UD (v:Int) (tbO (v:Int) xs) ps (atO xs:Int) rc0 [] 0 e9 (tbO (v:Int) xs)) (w:World) :
  Calls Tryz.prog 11 #[.string (tx bs)] w fun e w' =>(∃ (A E:Option Addr) (c d:Nat) (zs:List Rw),e=.returned (.tuple #[.agg #[.int .i64 (v:Int),.slice A xs.length c,.slice E xs.length d,.int .i64 (zAw F xs:Int)],.int .i64 0])∧zBp F xs w.heap.size (.slice A xs.length c) (.slice E xs.length d) zs w')∧Below w.heap.size w w':=by
 have h8:8≤bs.length:=by
  rcases Nat.lt_or_ge bs.length 8 with h | h
  ·unfold vg at hv
   rw [if_pos h] at hv
   cases hv
  ·exact h
 have HV:Hid (∀ W:World,Calls Tryz.prog 23 #[.string (tx bs)] W fun e w' =>e=.returned (.tuple #[.int .i64 (v:Int),.int .i64 0])∧Below W.heap.size W w'):=fun W =>(by have h1:=zFW bs hn W;rw [hv] at h1;exact h1)
 have HRUN:=yh (fun W =>zMy bs 8 hn h8 W F hF)
 obtain ⟨vi,hvi⟩:∃ vi:Int,vi=(v:Int):=⟨_,rfl⟩
 simp only [← hvi] at HV hud hstop ⊢
 have HUD:=yh hud
 have HSTOP:=yh hstop
 have HPS:=yh hps
 have HXL:=yh hxl
 have h0:=zAG w (.cells #[.int .i64 0,.slice none 0 0,.slice none 0 0,.int .i64 0] 37)
 have HA:=yh h0
 have HB:=yh ((Below.refl w.heap.size w).alloc (Nat.le_refl _) (.cells #[.int .i64 0,.slice none 0 0,.slice none 0 0,.int .i64 0] 37))
 obtain ⟨ii,hiI,hiA,hiB,hiC⟩:=info_parts zDv
 obtain ⟨ig,hgI,hgA,hgB,hgC⟩:=info_parts (show (Tryz.prog.info? 45).map (fun i =>(i.zero,i.size,i.bytes))=some (some (.agg #[.int .i64 0,.string ⟨#[]⟩,.int .u64 0,.slice none 0 0,.int .u64 0,.int .u64 0,.string ⟨#[]⟩]),7,88) from by kernel_rfl)
 obtain ⟨sb,hsb⟩:∃ sb,sb=tx bs:=⟨_,rfl⟩
 rw [← hsb] at HV HRUN ⊢
 clear h0 hud hstop hps hxl hF hv hvi h8 hn hsb
 go_enter Tryz.func11,Tryz.ntmps11
 go_wp2_with fail
 refine (HV.out _).mono ?_
 rintro e w2 ⟨rfl,hb⟩
 have HX2:Hid (w2.heap[w.heap.size]? = _):=(hb.block w.heap.size (zAO HA.out)).trans HA.out
 have HB2:=yh (HB.out.trans (hb.mono HB.out.size))
 have HN2:Hid (w.heap.size<w2.heap.size):=zAO HX2.out
 have HX3:Hid ((w2.alloc (.cells #[.int .i64 vi,.slice none 0 0,.slice none 0 0,.int .i64 8] 37)).heap[w.heap.size]? = _):=(Below.heap_alloc w2 _ w.heap.size HN2.out).trans HX2.out
 have HY3:=yh (zAG w2 (.cells #[.int .i64 vi,.slice none 0 0,.slice none 0 0,.int .i64 8] 37))
 have HB3:=yh (HB2.out.alloc HB2.out.size (.cells #[.int .i64 vi,.slice none 0 0,.slice none 0 0,.int .i64 8] 37))
 obtain ⟨b6,hb6⟩:∃ b6,b6=w2.heap.size:=⟨_,rfl⟩
 have HB6:Hid (w.heap.size<b6):=by show _<_;rw [hb6];exact HN2.out
 rw [← hb6] at HY3
 clear hb
 go_wp2_with fail
 rw [← hb6]
 clear hb6
 refine (HRUN.out _).mono ?_
 rintro e w4 ⟨vl,ve,rfl,hl4,he4,hb⟩
 obtain ⟨PL,pc,rfl,_⟩:=zAH hl4
 obtain ⟨EN,ec,rfl,_⟩:=zAH he4
 have HX4:=yh ((hb.block w.heap.size (zAO HX3.out)).trans HX3.out)
 have HY4:=yh ((hb.block b6 (zAO HY3.out)).trans HY3.out)
 have HB4:=yh (HB3.out.trans (hb.mono HB3.out.size))
 have HPL4:=yh hl4
 have HEN4:=yh he4
 obtain ⟨w5,hw5⟩:∃ w5,w5=w4:=⟨_,rfl⟩
 have HPL5:Hid (w5.ownsRow 0 9 1 (.slice PL F.length pc) F.length (F.map tp)):=by show World.ownsRow _ _ _ _ _ _ _;rw [hw5];exact zAY hl4 (Nat.zero_le _)
 have HEN5:Hid (w5.ownsRow 0 3 1 (.slice EN F.length ec) F.length (F.map tn)):=by show World.ownsRow _ _ _ _ _ _ _;rw [hw5];exact zAY he4 (Nat.zero_le _)
 have HY5:Hid (w5.heap[b6]? = some (.cells #[.int .i64 vi,.slice none 0 0,.slice none 0 0,.int .i64 8] 37 (0,0))):=by show _=_;rw [hw5];exact HY4.out
 have HX5:Hid (w5.heap[w.heap.size]? = some (.cells #[.int .i64 0,.slice none 0 0,.slice none 0 0,.int .i64 0] 37 (0,0))):=by show _=_;rw [hw5];exact HX4.out
 have HST:Hid (zDa w w5 vi vi b6 F [] (.slice (some ⟨w4.heap.size,0,none⟩) 0 0) (w4.alloc (.cells #[] 9))):=by
  refine ⟨by rw [hw5];exact zBF w4 9,⟨none,none,0,0,[],(Below.heap_alloc w4 _ b6 (zAO HY4.out)).trans HY4.out,⟨World.ownsRow_nil _ _ _ _,rfl,(fun z hz =>by cases hz),World.ownsRow_nil _ _ _ _⟩⟩,fun k hk hne =>by rw [hw5] at hk ⊢;exact Below.heap_alloc w4 _ k hk,HB4.out.alloc HB4.out.size _,by rw [hw5];simp⟩
 have HMP:Hid (ps.length=F.length∧ps.map tsv=F.map tp):=⟨by rw [HPS.out,List.length_map],by rw [HPS.out,List.map_map];rfl⟩
 clear hl4 he4 hb hw5 HX2 HX3 HY3 HY4 HX4
 go_wp2
 go_loopw [9,10] (fun v9 v10 wr =>∃ (i:Nat) (va:Value),va=v9∧i≤xs.length∧v10=.int .i64 (atO (xs.take i):Int)∧zDa w w5 vi vi b6 F (xs.take i) va wr) (fun v9 v10 wr =>ps.length - (intOf v10).toNat)
 case atStart =>exact ⟨0,_,rfl,Nat.zero_le _,rfl,HST.out⟩
 case round =>
  obtain ⟨i,va,rfl,hin,rfl,hst⟩:=hrel
  have hti:(xs.take i).length=i:=by rw [List.length_take];omega
  obtain ⟨A1,E,c1,d,zs,hx6,hrw⟩:=hst.rows
  rw [hti] at hx6 hrw
  obtain ⟨L,tk,rfl,_⟩:=zAH hst.table
  have HX:=yh hx6
  have HRW:=yh hrw
  have HT:=yh hst.table
  have HKP:=yh hst.keep
  have HBW:=yh hst.b
  have HS:=yh hst.sz
  have HTI:=yh hti
  have HENK:Hid (∀ W:World,(∀ k,k<w5.heap.size→k≠b6→W.heap[k]? = w5.heap[k]?)→W.ownsRow 0 3 1 (.slice EN F.length ec) F.length (F.map tn)):=fun W h =>zAT HEN5.out (fun g hg =>h g (zAV HEN5.out g hg) (fun e =>zAQ HEN5.out HY5.out (by decide) (by rw [← e];exact hg)))
  have HRPL:Hid (zAE wr wr.heap.size 1 PL F.length (ps.map tsv)):=by
   have h1:=zAE.of_own (zAT HPL5.out (fun g hg =>hst.keep g (zAV HPL5.out g hg) (fun e =>zAQ HPL5.out HY5.out (by decide) (by rw [← e];exact hg))))
   show zAE _ _ _ _ _ _
   rw [HMP.out.2];exact h1
  clear hst hx6 hrw hti
  by_cases hlt:i<xs.length
  ·obtain ⟨⟨r,l,nx⟩,hx⟩:∃ x,xs[i]? = some x:=⟨_,List.getElem?_eq_getElem hlt⟩
   obtain ⟨hg1,hg2,hud⟩:=HUD.out i _ hx
   simp only at hg1 hg2 hud
   obtain ⟨k,rfl⟩:∃ k,nx=k+1:=⟨nx - 1,by omega⟩
   have hkF:k<F.length:=by have:=HMP.out.1;omega
   obtain ⟨⟨pk,ev⟩,hfk⟩:∃ q,F[k]? = some q:=⟨_,List.getElem?_eq_getElem hkF⟩
   have HUDC:=yh (hud L PL tk F.length pc w5.heap.size wr HS.out HT.out HRPL.out)
   have HEA:Hid (zBq F (k+1)=ev):=by show _=_;unfold zBq;rw [show k+1 - 1=k from rfl,hfk];rfl
   have HENC:Hid (∀ W:World,(∀ k,k<w5.heap.size→k≠b6→W.heap[k]? = w5.heap[k]?)→∃ adE,EN=some adE∧W.cell? (adE.add k)=some (.int .i64 (ev:Int))):=fun W h =>by
    obtain ⟨adE,u,e1,_,hu,hc⟩:=(zAE.of_own (HENK.out W h)).at_ (k:=k) hkF
    refine ⟨adE,e1,?_⟩
    rw [List.getElem?_map,hfk] at hu
    obtain rfl:tn (pk,ev)=u:=Option.some.inj hu
    exact hc
   obtain ⟨adE,rfl,_⟩:=HENC.out wr HKP.out
   have HG1:Hid (atO (xs.take i)<k+1∧k+1≤ps.length):=⟨hg1,hg2⟩
   have HFX:=yh hx
   have HLT:Hid (i<xs.length):=hlt
   have hk1000:k<1000:=by omega
   have hi1000:i<1000:=by have:=HXL.out;omega
   have HKF:Hid (k<F.length):=hkF
   clear hx hg1 hg2 hud hfk hlt
   go_wp2_with fail
   refine HUDC.out.mono ?_
   rintro e w1 ⟨A',c',v2,rfl,hd,ho2,hb1⟩
   obtain ⟨L2,tk2,rfl,_⟩:=zAH ho2
   have hx1:=(hb1.block b6 (zAO HX.out)).trans HX.out
   have hx2:(w1.alloc (.cells #[.int .i64 r.kind,.string (tx r.target),.int .u64 r.rule,.slice A' l.length c',.int .u64 r.out,.int .u64 r.time,.string (tx r.tag)] 45)).heap[b6]? = _:=(Below.heap_alloc w1 (.cells #[.int .i64 r.kind,.string (tx r.target),.int .u64 r.rule,.slice A' l.length c',.int .u64 r.out,.int .u64 r.time,.string (tx r.tag)] 45) b6 (zAO hx1)).trans hx1
   have hr2:=zAG w1 (.cells #[.int .i64 r.kind,.string (tx r.target),.int .u64 r.rule,.slice A' l.length c',.int .u64 r.out,.int .u64 r.time,.string (tx r.tag)] 45)
   have hx3:((w1.alloc (.cells #[.int .i64 r.kind,.string (tx r.target),.int .u64 r.rule,.slice A' l.length c',.int .u64 r.out,.int .u64 r.time,.string (tx r.tag)] 45)).alloc (.cells #[.int .i64 r.kind,.string (tx r.target),.int .u64 r.rule,.slice A' l.length c',.int .u64 r.out,.int .u64 r.time,.string (tx r.tag)] 45)).heap[b6]? = _:=(Below.heap_alloc (w1.alloc (.cells #[.int .i64 r.kind,.string (tx r.target),.int .u64 r.rule,.slice A' l.length c',.int .u64 r.out,.int .u64 r.time,.string (tx r.tag)] 45)) (.cells #[.int .i64 r.kind,.string (tx r.target),.int .u64 r.rule,.slice A' l.length c',.int .u64 r.out,.int .u64 r.time,.string (tx r.tag)] 45) b6 (zAO hx2)).trans hx2
   have hb13:Below wr.heap.size wr ((w1.alloc (.cells #[.int .i64 r.kind,.string (tx r.target),.int .u64 r.rule,.slice A' l.length c',.int .u64 r.out,.int .u64 r.time,.string (tx r.tag)] 45)).alloc (.cells #[.int .i64 r.kind,.string (tx r.target),.int .u64 r.rule,.slice A' l.length c',.int .u64 r.out,.int .u64 r.time,.string (tx r.tag)] 45)):=(hb1.alloc hb1.size (.cells #[.int .i64 r.kind,.string (tx r.target),.int .u64 r.rule,.slice A' l.length c',.int .u64 r.out,.int .u64 r.time,.string (tx r.tag)] 45)).alloc (by have:=hb1.size;simp;omega) (.cells #[.int .i64 r.kind,.string (tx r.target),.int .u64 r.rule,.slice A' l.length c',.int .u64 r.out,.int .u64 r.time,.string (tx r.tag)] 45)
   have HX3:Hid (((w1.alloc (.cells #[.int .i64 r.kind,.string (tx r.target),.int .u64 r.rule,.slice A' l.length c',.int .u64 r.out,.int .u64 r.time,.string (tx r.tag)] 45)).alloc (.cells #[.int .i64 r.kind,.string (tx r.target),.int .u64 r.rule,.slice A' l.length c',.int .u64 r.out,.int .u64 r.time,.string (tx r.tag)] 45)).heap[b6]? = _):=hx3
   have HB13:=yh hb13
   have HRW3:=yh (HRW.out.below hb13)
   have HREC3:Hid (((w1.alloc (.cells #[.int .i64 r.kind,.string (tx r.target),.int .u64 r.rule,.slice A' l.length c',.int .u64 r.out,.int .u64 r.time,.string (tx r.tag)] 45)).alloc (.cells #[.int .i64 r.kind,.string (tx r.target),.int .u64 r.rule,.slice A' l.length c',.int .u64 r.out,.int .u64 r.time,.string (tx r.tag)] 45)).ownsRow w5.heap.size 45 7 (.slice A1 i c1) i (rws zs)):=by have h1:=HRW3.out.recs;rw [HTI.out] at h1;exact h1
   have HT3:Hid (Own ((w1.alloc (.cells #[.int .i64 r.kind,.string (tx r.target),.int .u64 r.rule,.slice A' l.length c',.int .u64 r.out,.int .u64 r.time,.string (tx r.tag)] 45)).alloc (.cells #[.int .i64 r.kind,.string (tx r.target),.int .u64 r.rule,.slice A' l.length c',.int .u64 r.out,.int .u64 r.time,.string (tx r.tag)] 45)) w5.heap.size (.slice L2 (tabT vi (tbO vi (xs.take i)) r l).length tk2) (tabT vi (tbO vi (xs.take i)) r l)):=zAs (zAs ho2 _) _
   have HD3:Hid (((w1.alloc (.cells #[.int .i64 r.kind,.string (tx r.target),.int .u64 r.rule,.slice A' l.length c',.int .u64 r.out,.int .u64 r.time,.string (tx r.tag)] 45)).alloc (.cells #[.int .i64 r.kind,.string (tx r.target),.int .u64 r.rule,.slice A' l.length c',.int .u64 r.out,.int .u64 r.time,.string (tx r.tag)] 45)).ownsRow w5.heap.size 73 3 (.slice A' l.length c') l.length (dps l)):=zAY (zAs (zAs hd _) _) HS.out
   have HRR:Hid (zAE ((w1.alloc (.cells #[.int .i64 r.kind,.string (tx r.target),.int .u64 r.rule,.slice A' l.length c',.int .u64 r.out,.int .u64 r.time,.string (tx r.tag)] 45)).alloc (.cells #[.int .i64 r.kind,.string (tx r.target),.int .u64 r.rule,.slice A' l.length c',.int .u64 r.out,.int .u64 r.time,.string (tx r.tag)] 45)) ((w1.alloc (.cells #[.int .i64 r.kind,.string (tx r.target),.int .u64 r.rule,.slice A' l.length c',.int .u64 r.out,.int .u64 r.time,.string (tx r.tag)] 45)).heap.size+1) 7 (some ⟨(w1.alloc (.cells #[.int .i64 r.kind,.string (tx r.target),.int .u64 r.rule,.slice A' l.length c',.int .u64 r.out,.int .u64 r.time,.string (tx r.tag)] 45)).heap.size,0,none⟩) 1 (rws [⟨r,A',l.length,c',l⟩])):=zHZ (w1.alloc (.cells #[.int .i64 r.kind,.string (tx r.target),.int .u64 r.rule,.slice A' l.length c',.int .u64 r.out,.int .u64 r.time,.string (tx r.tag)] 45)) ⟨r,A',l.length,c',l⟩
   have hsz2:(w1.alloc (.cells #[.int .i64 r.kind,.string (tx r.target),.int .u64 r.rule,.slice A' l.length c',.int .u64 r.out,.int .u64 r.time,.string (tx r.tag)] 45)).heap.size=w1.heap.size+1:=by simp
   rw [hsz2] at HRR
   have q1:=zAA (i:=1) hx2 rfl
   have p0:=zAA (i:=0) hr2 rfl;have p1:=zAA (i:=1) hr2 rfl;have p2:=zAA (i:=2) hr2 rfl;have p3:=zAA (i:=3) hr2 rfl;have p4:=zAA (i:=4) hr2 rfl;have p5:=zAA (i:=5) hr2 rfl;have p6:=zAA (i:=6) hr2 rfl
   clear hx1 hx2 hx3 hr2 hb13 hd ho2 hb1 hsz2
   go_wp2_with (at_builtin;refine zAX _ rfl (.tmp 46) (.tmp 48) 22 rfl w5.heap.size 45 ig _ 7 88 Tryz.underlying22 hgI hgA hgB hgC rfl (by decide) (.slice A1 i c1) i (rws zs) rfl HREC3.out (some ⟨w1.heap.size+1,0,none⟩) 1 1 _ (rws [⟨r,A',l.length,c',l⟩]) rfl (by simp) HRR.out (zJR _) (by unfold maxLen;omega) (by omega) (Nat.le_trans HS.out HB13.out.size) ?_;intro v4 w4 ho4 hg4 hv4;rw [← zJb] at ho4;obtain ⟨A2,c2,rfl,_⟩:=zAH ho4;have HO4:=yh ho4;have HG4:=yh hg4;have HX4:Hid (w4.heap[b6]? = _):=(hg4.block b6 (zAO HX3.out) (fun e =>zAQ HREC3.out HX3.out (by decide) e.symm)).trans HX3.out;clear q1 p0 p1 p2 p3 p4 p5 p6 ho4 hg4 hv4;have q1:=zAA (i:=1) HX4.out rfl;have y1:w4.frozen? ⟨b6,1,none⟩=false:=zAC HX4.out)
   clear q1 y1
   obtain ⟨zs2,hzs2⟩:∃ zs2,zs2=zs++[(⟨r,A',l.length,c',l⟩:Rw)]:=⟨_,rfl⟩
   have HSAY:Hid (zs2.map Rw.say=(xs.take (i+1)).map sayR):=by
    show _=_
    rw [hzs2,List.map_append,HRW.out.say,List.take_add_one,HFX.out,List.map_append]
    rfl
   have HRC4:Hid (w4.ownsRow w5.heap.size 45 7 (.slice A2 (i+1) c2) (i+1) (rws zs2)):=by show World.ownsRow _ _ _ _ _ _ _;rw [hzs2];exact HO4.out
   have HDP4:Hid (∀ z ∈ zs2,w4.ownsRow w5.heap.size 73 3 (.slice z.A z.n z.c) z.n (dps z.l)):=fun z hz =>by
    rw [hzs2] at hz
    rcases List.mem_append.1 hz with h1 | h1
    ·exact zAk HREC3.out (HRW3.out.deps z h1) (by decide) HG4.out
    ·obtain rfl:=List.mem_singleton.1 h1
     exact zAk HREC3.out HD3.out (by decide) HG4.out
   have HE4:Hid (w4.ownsRow w5.heap.size 3 1 (.slice E i d) i ((xs.take i).map (endV F))):=by have h1:=zAk HREC3.out HRW3.out.ends (by decide) HG4.out;rw [HTI.out] at h1;exact h1
   have HT4:=yh (zAk HREC3.out HT3.out (by decide) HG4.out)
   have HSS3:Hid (w5.heap.size≤((w1.alloc (.cells #[.int .i64 r.kind,.string (tx r.target),.int .u64 r.rule,.slice A' l.length c',.int .u64 r.out,.int .u64 r.time,.string (tx r.tag)] 45)).alloc (.cells #[.int .i64 r.kind,.string (tx r.target),.int .u64 r.rule,.slice A' l.length c',.int .u64 r.out,.int .u64 r.time,.string (tx r.tag)] 45)).heap.size):=Nat.le_trans HS.out HB13.out.size
   have HW5:Hid (w.heap.size≤w5.heap.size):=Nat.le_trans (Nat.le_of_lt HB6.out) (Nat.le_of_lt (zAO HY5.out))
   have HKP4:Hid (∀ k,k<w5.heap.size→k≠b6→w4.heap[k]? = w5.heap[k]?):=fun k hk hne =>(HG4.out.block k (Nat.lt_of_lt_of_le hk HSS3.out) (fun e =>by have h1:=zAI HREC3.out k e.symm;omega)).trans ((HB13.out.block k (Nat.lt_of_lt_of_le hk HS.out)).trans (HKP.out k hk hne))
   have HB4w:=yh ((HBW.out.trans (HB13.out.mono HBW.out.size)).grown HG4.out (Nat.le_trans HBW.out.size HB13.out.size) (fun k e =>Nat.le_trans HW5.out (zAI HREC3.out k e)))
   have HS4:Hid (w5.heap.size≤w4.heap.size):=Nat.le_trans HSS3.out HG4.out.size
   obtain ⟨w6,hw6⟩:∃ x,x=w4.setCell ⟨b6,1,none⟩ (.slice A2 (i+1) c2):=⟨_,rfl⟩
   have HX6:Hid (w6.heap[b6]? = some (.cells #[.int .i64 vi,.slice A2 (i+1) c2,.slice E i d,.int .i64 (zAw F (xs.take i):Int)] 37 (0,0))):=by show _=_;rw [hw6];exact zAD HX4.out 1 _
   have hn1:=zAQ HRC4.out HX4.out (by decide)
   have hn3:=zAQ HE4.out HX4.out (by decide)
   have hn4:=zAQ HT4.out HX4.out (by decide)
   have HRC6:Hid (w6.ownsRow w5.heap.size 45 7 (.slice A2 (i+1) c2) (i+1) (rws zs2)):=by show World.ownsRow _ _ _ _ _ _ _;rw [hw6];exact zAT HRC4.out (fun g h =>zBe (fun e =>hn1 (by rw [← e];exact h)) 1 _)
   have HE6:Hid (w6.ownsRow w5.heap.size 3 1 (.slice E i d) i ((xs.take i).map (endV F))):=by show World.ownsRow _ _ _ _ _ _ _;rw [hw6];exact zAT HE4.out (fun g h =>zBe (fun e =>hn3 (by rw [← e];exact h)) 1 _)
   have HT6:Hid (Own w6 w5.heap.size (.slice L2 (tabT vi (tbO vi (xs.take i)) r l).length tk2) (tabT vi (tbO vi (xs.take i)) r l)):=by show World.ownsRow _ _ _ _ _ _ _;rw [hw6];exact zAT HT4.out (fun g h =>zBe (fun e =>hn4 (by rw [← e];exact h)) 1 _)
   have HDP6:Hid (∀ z ∈ zs2,w6.ownsRow w5.heap.size 73 3 (.slice z.A z.n z.c) z.n (dps z.l)):=fun z hz =>by rw [hw6];exact zAT (HDP4.out z hz) (fun g h =>zBe (fun e =>zAQ (HDP4.out z hz) HX4.out (by decide) (by rw [← e];exact h)) 1 _)
   have HKP6:Hid (∀ k,k<w5.heap.size→k≠b6→w6.heap[k]? = w5.heap[k]?):=fun k hk hne =>by rw [hw6];exact (zBe hne 1 _).trans (HKP4.out k hk hne)
   have HBW6:Hid (Below w.heap.size w w6):=by show Below _ _ _;rw [hw6];exact HB4w.out.setCell (p:=⟨b6,1,none⟩) (Nat.le_of_lt HB6.out) _
   have HS6:Hid (w5.heap.size≤w6.heap.size):=by show _≤_;rw [hw6];simpa using HS4.out
   have HSZ6:Hid (w.heap.size≤w5.heap.size):=HW5.out
   rw [← hw6]
   obtain ⟨e1E,e2E,hcE⟩:=HENC.out w6 HKP6.out
   obtain rfl:adE=e1E:=Option.some.inj e2E
   have z1:=zAA (i:=2) HX6.out rfl
   have hkw:IntKind.i64.wrap (k:Int)=(k:Int):=by rw [zDf (by omega) (by omega)]
   have hkk0:(0:Int)≤(k:Int):=by omega
   have hkk1:(k:Int)<(F.length:Int):=by omega
   clear hn1 hn3 hn4 hw6 HX3 HRW3 HREC3 HT3 HD3 HRR HO4 HX4 HDP4 HE4 HT4 HKP4 HB4w HS4 HSS3 HRC4 e2E hzs2
   refine wp_region_held (S:=fun _ =>True) (by kernel_rfl) ?_
   refine zAB 0 (.pointer (some ⟨b6,2,none⟩)) rfl (by kernel_rfl) (by kernel_rfl) (by kernel_rfl) (fun _ _ _ h =>h) (by kernel_rfl) trivial (by intro v hv;go_simp) ?_
   refine zAB 2 (.slice (some adE) F.length ec) rfl (by kernel_rfl) (by kernel_rfl) (by kernel_rfl) (fun _ _ _ h =>h) (by kernel_rfl) trivial (fun _ _ =>by kernel_rfl) ?_
   refine zAB 3 (.int .i64 ((k:Int)+1)) rfl (by kernel_rfl) (by kernel_rfl) (by kernel_rfl) (fun _ _ _ h =>h) (by kernel_rfl) trivial (fun _ _ =>by kernel_rfl) ?_
   refine zAB 4 (.int .i64 (k:Int)) rfl (by kernel_rfl) (by kernel_rfl) (by kernel_rfl) (fun _ _ _ h =>h) (by kernel_rfl) trivial (by intro v hv;go_simp) ?_
   refine zAB 5 (.pointer (some (adE.add k))) rfl (by kernel_rfl) (by kernel_rfl) (by kernel_rfl) (fun _ _ _ h =>h) (by kernel_rfl) trivial (by intro v hv;go_simp) ?_
   refine zDr 1 6 rfl rfl (by kernel_rfl) (by kernel_rfl) (by kernel_rfl) (fun K hK =>?_) (fun K hK =>?_)
   ·go_simp
    refine hK _ _ trivial ?_
    clear hK K
    refine zAP 6 rfl (by kernel_rfl) (by kernel_rfl) (fun K hK =>?_)
    go_simp
    refine hK _ _ trivial ?_
    clear hK K
    refine zAP 7 rfl (by kernel_rfl) (by kernel_rfl) (fun K hK =>?_)
    go_simp
    have hb7:=(Below.refl w6.heap.size w6).alloc (Nat.le_refl _) (.cells #[inv ev] 3)
    have hrd7:=zAi w6 3 (inv ev)
    have HB7:Hid (Below w6.heap.size w6 ((w6.alloc (.cells #[inv ev] 3)).drew)):=hb7.drew
    have HR7:Hid (zAE ((w6.alloc (.cells #[inv ev] 3)).drew) (w6.heap.size+1) 1 (some ⟨w6.heap.size,0,none⟩) 1 [inv ev]):=hrd7
    clear hb7 hrd7
    unfold inv at HB7 HR7
    generalize (w6.alloc (.cells #[.int .i64 (ev:Int)] 3)).drew=w7 at *
    refine hK _ _ trivial ?_
    clear hK K
    refine zAP 8 rfl (by kernel_rfl) (by kernel_rfl) (fun K hK =>?_)
    have HX7:Hid (w7.heap[b6]? = _):=(HB7.out.block b6 (zAO HX6.out)).trans HX6.out
    have HE7:=yh (zAF HE6.out HB7.out)
    have HRC7:=yh (zAF HRC6.out HB7.out)
    have HDP7:Hid (∀ z ∈ zs2,w7.ownsRow w5.heap.size 73 3 (.slice z.A z.n z.c) z.n (dps z.l)):=fun z hz =>zAF (HDP6.out z hz) HB7.out
    have HT7:=yh (zAF HT6.out HB7.out)
    refine zAx (.tmp 52) (.tmp 58) 29 rfl w5.heap.size 3 ii _ 1 8 Tryz.underlying29 hiI hiA hiB hiC rfl (by decide) (.slice E i d) i _ rfl HE7.out (some ⟨w6.heap.size,0,none⟩) 1 1 _ [.int .i64 (ev:Int)] rfl (by simp) HR7.out (by simp [Value.oneCell']) (by unfold maxLen;omega) (by omega) (Nat.le_trans HS6.out HB7.out.size) ?_
    intro v8 w8 ho8 hg8 hv8
    have HE8:Hid (w8.ownsRow w5.heap.size 3 1 v8 (i+1) ((xs.take (i+1)).map (endV F))):=by
     show World.ownsRow _ _ _ _ _ _ _
     rw [List.take_add_one,HFX.out,List.map_append]
     have h1:([(r,l,k+1)]:List Rdd).map (endV F)=[.int .i64 (ev:Int)]:=by show [inv (zBq F (k+1))]=_;rw [HEA.out];rfl
     show World.ownsRow _ _ _ _ _ _ (_++([(r,l,k+1)]:List Rdd).map (endV F))
     rw [h1];exact ho8
    have HX8:Hid (w8.heap[b6]? = some (.cells #[.int .i64 vi,.slice A2 (i+1) c2,.slice E i d,.int .i64 (zAw F (xs.take i):Int)] 37 (0,0))):=(hg8.block b6 (zAO HX7.out) (fun e =>zAQ HE7.out HX7.out (by decide) e.symm)).trans HX7.out
    have HRC8:=yh (zAk HE7.out HRC7.out (by decide) hg8)
    have HDP8:Hid (∀ z ∈ zs2,w8.ownsRow w5.heap.size 73 3 (.slice z.A z.n z.c) z.n (dps z.l)):=fun z hz =>zAk HE7.out (HDP7.out z hz) (by decide) hg8
    have HT8:=yh (zAk HE7.out HT7.out (by decide) hg8)
    have HKP8:Hid (∀ k,k<w5.heap.size→k≠b6→w8.heap[k]? = w5.heap[k]?):=fun k hk hne =>(hg8.block k (Nat.lt_of_lt_of_le hk (Nat.le_trans HS6.out HB7.out.size)) (fun e =>by have h1:=zAI HE7.out k e.symm;omega)).trans ((HB7.out.block k (Nat.lt_of_lt_of_le hk HS6.out)).trans (HKP6.out k hk hne))
    have HB8:=yh ((HBW6.out.trans (HB7.out.mono HBW6.out.size)).grown hg8 (Nat.le_trans HBW6.out.size HB7.out.size) (fun k e =>Nat.le_trans HSZ6.out (zAI HE7.out k e)))
    have HS8:Hid (w5.heap.size≤w8.heap.size):=Nat.le_trans (Nat.le_trans HS6.out HB7.out.size) hg8.size
    obtain ⟨E2,d2,rfl,_⟩:=zAH ho8
    clear ho8 hg8 hv8
    refine hK _ _ trivial ?_
    clear hK K
    refine zAB 9 (.pointer (some ⟨b6,2,none⟩)) rfl (by kernel_rfl) (by kernel_rfl) (by kernel_rfl) (fun _ _ _ h =>h) (by kernel_rfl) trivial (by intro v hv;go_simp) ?_
    refine zAP 10 rfl (by kernel_rfl) (by kernel_rfl) (fun K hK =>?_)
    have z8:=zAA (i:=2) HX8.out rfl
    have y8:w8.frozen? ⟨b6,2,none⟩=false:=zAC HX8.out
    go_simp
    refine hK _ _ trivial ?_
    clear hK K z8 y8
    refine wpAnyH_done (by kernel_rfl) ?_ _
    go_simp
    obtain ⟨w9,hw9⟩:∃ x,x=w8.setCell ⟨b6,2,none⟩ (.slice E2 (i+1) d2):=⟨_,rfl⟩
    have HX9:Hid (w9.heap[b6]? = some (.cells #[.int .i64 vi,.slice A2 (i+1) c2,.slice E2 (i+1) d2,.int .i64 (zAw F (xs.take i):Int)] 37 (0,0))):=by show _=_;rw [hw9];exact zAD HX8.out 2 _
    have HKP9:Hid (∀ k,k<w5.heap.size→k≠b6→w9.heap[k]? = w5.heap[k]?):=fun k hk hne =>by rw [hw9];exact (zBe hne 2 _).trans (HKP8.out k hk hne)
    rw [← hw9]
    have HW9:=yh hw9
    clear hw9
    obtain ⟨e3E,e4E,hcE9⟩:=HENC.out w9 HKP9.out
    obtain rfl:adE=e3E:=Option.some.inj e4E
    have z9:=zAA (i:=3) HX9.out rfl
    have y9:w9.frozen? ⟨b6,3,none⟩=false:=zAC HX9.out
    have hti1:(xs.take (i+1)).length=i+1:=by rw [List.length_take];have:=HLT.out;omega
    have HNX:Hid (zDa w w5 vi vi b6 F (xs.take (i+1)) (.slice L2 (tabT vi (tbO vi (xs.take i)) r l).length tk2) (w9.setCell ⟨b6,3,none⟩ (.int .i64 (ev:Int)))):=by
     show zDa _ _ _ _ _ _ _ _ _
     rw [HW9.out]
     refine zGD rfl hti1 HX8.out HRC8.out HSAY.out HDP8.out HE8.out ?_ HKP8.out HB8.out HS8.out (Nat.le_of_lt HB6.out) ?_
     ·rw [List.take_add_one,HFX.out]
      show Own _ _ _ (tbO vi (xs.take i++[(r,l,k+1)]))
      rw [zCm];exact HT8.out
     ·rw [List.take_add_one,HFX.out]
      show zAw F (xs.take i++[(r,l,k+1)])=ev
      rw [zCg];exact HEA.out
    have HAT:Hid (atO (xs.take (i+1))=k+1):=by
     show _=_
     rw [List.take_add_one,HFX.out]
     show atO (xs.take i++[(r,l,k+1)])=_
     rw [zBv]
    clear hti1 e4E
    go_wp2
    exact ⟨⟨i+1,_,rfl,HLT.out,by rw [HAT.out];rfl,HNX.out⟩,by show ps.length - (k+1)<ps.length - atO (xs.take i);have:=HG1.out;omega⟩
   ·go_simp
    refine hK _ _ trivial ?_
    clear hK K
    refine zDr 1 7 rfl rfl (by kernel_rfl) (by kernel_rfl) (by kernel_rfl) (fun K hK =>?_) (fun K hK =>?_)
    ·go_simp
     refine hK _ _ trivial ?_
     clear hK K
     refine zAP 7 rfl (by kernel_rfl) (by kernel_rfl) (fun K hK =>?_)
     go_simp
     have hb7:=(Below.refl w6.heap.size w6).alloc (Nat.le_refl _) (.cells #[inv ev] 3)
     have hrd7:=zAi w6 3 (inv ev)
     have HB7:Hid (Below w6.heap.size w6 ((w6.alloc (.cells #[inv ev] 3)).drew)):=hb7.drew
     have HR7:Hid (zAE ((w6.alloc (.cells #[inv ev] 3)).drew) (w6.heap.size+1) 1 (some ⟨w6.heap.size,0,none⟩) 1 [inv ev]):=hrd7
     clear hb7 hrd7
     unfold inv at HB7 HR7
     generalize (w6.alloc (.cells #[.int .i64 (ev:Int)] 3)).drew=w7 at *
     refine hK _ _ trivial ?_
     clear hK K
     refine zAP 8 rfl (by kernel_rfl) (by kernel_rfl) (fun K hK =>?_)
     have HX7:Hid (w7.heap[b6]? = _):=(HB7.out.block b6 (zAO HX6.out)).trans HX6.out
     have HE7:=yh (zAF HE6.out HB7.out)
     have HRC7:=yh (zAF HRC6.out HB7.out)
     have HDP7:Hid (∀ z ∈ zs2,w7.ownsRow w5.heap.size 73 3 (.slice z.A z.n z.c) z.n (dps z.l)):=fun z hz =>zAF (HDP6.out z hz) HB7.out
     have HT7:=yh (zAF HT6.out HB7.out)
     refine zAx (.tmp 52) (.tmp 58) 29 rfl w5.heap.size 3 ii _ 1 8 Tryz.underlying29 hiI hiA hiB hiC rfl (by decide) (.slice E i d) i _ rfl HE7.out (some ⟨w6.heap.size,0,none⟩) 1 1 _ [.int .i64 (ev:Int)] rfl (by simp) HR7.out (by simp [Value.oneCell']) (by unfold maxLen;omega) (by omega) (Nat.le_trans HS6.out HB7.out.size) ?_
     intro v8 w8 ho8 hg8 hv8
     have HE8:Hid (w8.ownsRow w5.heap.size 3 1 v8 (i+1) ((xs.take (i+1)).map (endV F))):=by
      show World.ownsRow _ _ _ _ _ _ _
      rw [List.take_add_one,HFX.out,List.map_append]
      have h1:([(r,l,k+1)]:List Rdd).map (endV F)=[.int .i64 (ev:Int)]:=by show [inv (zBq F (k+1))]=_;rw [HEA.out];rfl
      show World.ownsRow _ _ _ _ _ _ (_++([(r,l,k+1)]:List Rdd).map (endV F))
      rw [h1];exact ho8
     have HX8:Hid (w8.heap[b6]? = some (.cells #[.int .i64 vi,.slice A2 (i+1) c2,.slice E i d,.int .i64 (zAw F (xs.take i):Int)] 37 (0,0))):=(hg8.block b6 (zAO HX7.out) (fun e =>zAQ HE7.out HX7.out (by decide) e.symm)).trans HX7.out
     have HRC8:=yh (zAk HE7.out HRC7.out (by decide) hg8)
     have HDP8:Hid (∀ z ∈ zs2,w8.ownsRow w5.heap.size 73 3 (.slice z.A z.n z.c) z.n (dps z.l)):=fun z hz =>zAk HE7.out (HDP7.out z hz) (by decide) hg8
     have HT8:=yh (zAk HE7.out HT7.out (by decide) hg8)
     have HKP8:Hid (∀ k,k<w5.heap.size→k≠b6→w8.heap[k]? = w5.heap[k]?):=fun k hk hne =>(hg8.block k (Nat.lt_of_lt_of_le hk (Nat.le_trans HS6.out HB7.out.size)) (fun e =>by have h1:=zAI HE7.out k e.symm;omega)).trans ((HB7.out.block k (Nat.lt_of_lt_of_le hk HS6.out)).trans (HKP6.out k hk hne))
     have HB8:=yh ((HBW6.out.trans (HB7.out.mono HBW6.out.size)).grown hg8 (Nat.le_trans HBW6.out.size HB7.out.size) (fun k e =>Nat.le_trans HSZ6.out (zAI HE7.out k e)))
     have HS8:Hid (w5.heap.size≤w8.heap.size):=Nat.le_trans (Nat.le_trans HS6.out HB7.out.size) hg8.size
     obtain ⟨E2,d2,rfl,_⟩:=zAH ho8
     clear ho8 hg8 hv8
     refine hK _ _ trivial ?_
     clear hK K
     refine zAB 9 (.pointer (some ⟨b6,2,none⟩)) rfl (by kernel_rfl) (by kernel_rfl) (by kernel_rfl) (fun _ _ _ h =>h) (by kernel_rfl) trivial (by intro v hv;go_simp) ?_
     refine zAP 10 rfl (by kernel_rfl) (by kernel_rfl) (fun K hK =>?_)
     have z8:=zAA (i:=2) HX8.out rfl
     have y8:w8.frozen? ⟨b6,2,none⟩=false:=zAC HX8.out
     go_simp
     refine hK _ _ trivial ?_
     clear hK K z8 y8
     refine wpAnyH_done (by kernel_rfl) ?_ _
     go_simp
     obtain ⟨w9,hw9⟩:∃ x,x=w8.setCell ⟨b6,2,none⟩ (.slice E2 (i+1) d2):=⟨_,rfl⟩
     have HX9:Hid (w9.heap[b6]? = some (.cells #[.int .i64 vi,.slice A2 (i+1) c2,.slice E2 (i+1) d2,.int .i64 (zAw F (xs.take i):Int)] 37 (0,0))):=by show _=_;rw [hw9];exact zAD HX8.out 2 _
     have HKP9:Hid (∀ k,k<w5.heap.size→k≠b6→w9.heap[k]? = w5.heap[k]?):=fun k hk hne =>by rw [hw9];exact (zBe hne 2 _).trans (HKP8.out k hk hne)
     rw [← hw9]
     have HW9:=yh hw9
     clear hw9
     obtain ⟨e3E,e4E,hcE9⟩:=HENC.out w9 HKP9.out
     obtain rfl:adE=e3E:=Option.some.inj e4E
     have z9:=zAA (i:=3) HX9.out rfl
     have y9:w9.frozen? ⟨b6,3,none⟩=false:=zAC HX9.out
     have hti1:(xs.take (i+1)).length=i+1:=by rw [List.length_take];have:=HLT.out;omega
     have HNX:Hid (zDa w w5 vi vi b6 F (xs.take (i+1)) (.slice L2 (tabT vi (tbO vi (xs.take i)) r l).length tk2) (w9.setCell ⟨b6,3,none⟩ (.int .i64 (ev:Int)))):=by
      show zDa _ _ _ _ _ _ _ _ _
      rw [HW9.out]
      refine zGD rfl hti1 HX8.out HRC8.out HSAY.out HDP8.out HE8.out ?_ HKP8.out HB8.out HS8.out (Nat.le_of_lt HB6.out) ?_
      ·rw [List.take_add_one,HFX.out]
       show Own _ _ _ (tbO vi (xs.take i++[(r,l,k+1)]))
       rw [zCm];exact HT8.out
      ·rw [List.take_add_one,HFX.out]
       show zAw F (xs.take i++[(r,l,k+1)])=ev
       rw [zCg];exact HEA.out
     have HAT:Hid (atO (xs.take (i+1))=k+1):=by
      show _=_
      rw [List.take_add_one,HFX.out]
      show atO (xs.take i++[(r,l,k+1)])=_
      rw [zBv]
     clear hti1 e4E
     go_wp2
     exact ⟨⟨i+1,_,rfl,HLT.out,by rw [HAT.out];rfl,HNX.out⟩,by show ps.length - (k+1)<ps.length - atO (xs.take i);have:=HG1.out;omega⟩
    ·go_simp
     have hb7:=(Below.refl w6.heap.size w6).alloc (Nat.le_refl _) (.cells #[inv ev] 3)
     have hrd7:=zAi w6 3 (inv ev)
     have HB7:Hid (Below w6.heap.size w6 ((w6.alloc (.cells #[inv ev] 3)).drew)):=hb7.drew
     have HR7:Hid (zAE ((w6.alloc (.cells #[inv ev] 3)).drew) (w6.heap.size+1) 1 (some ⟨w6.heap.size,0,none⟩) 1 [inv ev]):=hrd7
     clear hb7 hrd7
     unfold inv at HB7 HR7
     generalize (w6.alloc (.cells #[.int .i64 (ev:Int)] 3)).drew=w7 at *
     refine hK _ _ trivial ?_
     clear hK K
     refine zAP 1 rfl (by kernel_rfl) (by kernel_rfl) (fun K hK =>?_)
     have z1:=zAA (i:=2) ((HB7.out.block b6 (zAO HX6.out)).trans HX6.out) rfl
     go_simp
     refine hK _ _ trivial ?_
     clear hK K
     refine zAP 8 rfl (by kernel_rfl) (by kernel_rfl) (fun K hK =>?_)
     have HX7:Hid (w7.heap[b6]? = _):=(HB7.out.block b6 (zAO HX6.out)).trans HX6.out
     have HE7:=yh (zAF HE6.out HB7.out)
     have HRC7:=yh (zAF HRC6.out HB7.out)
     have HDP7:Hid (∀ z ∈ zs2,w7.ownsRow w5.heap.size 73 3 (.slice z.A z.n z.c) z.n (dps z.l)):=fun z hz =>zAF (HDP6.out z hz) HB7.out
     have HT7:=yh (zAF HT6.out HB7.out)
     refine zAx (.tmp 52) (.tmp 58) 29 rfl w5.heap.size 3 ii _ 1 8 Tryz.underlying29 hiI hiA hiB hiC rfl (by decide) (.slice E i d) i _ rfl HE7.out (some ⟨w6.heap.size,0,none⟩) 1 1 _ [.int .i64 (ev:Int)] rfl (by simp) HR7.out (by simp [Value.oneCell']) (by unfold maxLen;omega) (by omega) (Nat.le_trans HS6.out HB7.out.size) ?_
     intro v8 w8 ho8 hg8 hv8
     have HE8:Hid (w8.ownsRow w5.heap.size 3 1 v8 (i+1) ((xs.take (i+1)).map (endV F))):=by
      show World.ownsRow _ _ _ _ _ _ _
      rw [List.take_add_one,HFX.out,List.map_append]
      have h1:([(r,l,k+1)]:List Rdd).map (endV F)=[.int .i64 (ev:Int)]:=by show [inv (zBq F (k+1))]=_;rw [HEA.out];rfl
      show World.ownsRow _ _ _ _ _ _ (_++([(r,l,k+1)]:List Rdd).map (endV F))
      rw [h1];exact ho8
     have HX8:Hid (w8.heap[b6]? = some (.cells #[.int .i64 vi,.slice A2 (i+1) c2,.slice E i d,.int .i64 (zAw F (xs.take i):Int)] 37 (0,0))):=(hg8.block b6 (zAO HX7.out) (fun e =>zAQ HE7.out HX7.out (by decide) e.symm)).trans HX7.out
     have HRC8:=yh (zAk HE7.out HRC7.out (by decide) hg8)
     have HDP8:Hid (∀ z ∈ zs2,w8.ownsRow w5.heap.size 73 3 (.slice z.A z.n z.c) z.n (dps z.l)):=fun z hz =>zAk HE7.out (HDP7.out z hz) (by decide) hg8
     have HT8:=yh (zAk HE7.out HT7.out (by decide) hg8)
     have HKP8:Hid (∀ k,k<w5.heap.size→k≠b6→w8.heap[k]? = w5.heap[k]?):=fun k hk hne =>(hg8.block k (Nat.lt_of_lt_of_le hk (Nat.le_trans HS6.out HB7.out.size)) (fun e =>by have h1:=zAI HE7.out k e.symm;omega)).trans ((HB7.out.block k (Nat.lt_of_lt_of_le hk HS6.out)).trans (HKP6.out k hk hne))
     have HB8:=yh ((HBW6.out.trans (HB7.out.mono HBW6.out.size)).grown hg8 (Nat.le_trans HBW6.out.size HB7.out.size) (fun k e =>Nat.le_trans HSZ6.out (zAI HE7.out k e)))
     have HS8:Hid (w5.heap.size≤w8.heap.size):=Nat.le_trans (Nat.le_trans HS6.out HB7.out.size) hg8.size
     obtain ⟨E2,d2,rfl,_⟩:=zAH ho8
     clear ho8 hg8 hv8
     refine hK _ _ trivial ?_
     clear hK K
     refine zAB 9 (.pointer (some ⟨b6,2,none⟩)) rfl (by kernel_rfl) (by kernel_rfl) (by kernel_rfl) (fun _ _ _ h =>h) (by kernel_rfl) trivial (by intro v hv;go_simp) ?_
     refine zAP 10 rfl (by kernel_rfl) (by kernel_rfl) (fun K hK =>?_)
     have z8:=zAA (i:=2) HX8.out rfl
     have y8:w8.frozen? ⟨b6,2,none⟩=false:=zAC HX8.out
     go_simp
     refine hK _ _ trivial ?_
     clear hK K z8 y8
     refine wpAnyH_done (by kernel_rfl) ?_ _
     go_simp
     obtain ⟨w9,hw9⟩:∃ x,x=w8.setCell ⟨b6,2,none⟩ (.slice E2 (i+1) d2):=⟨_,rfl⟩
     have HX9:Hid (w9.heap[b6]? = some (.cells #[.int .i64 vi,.slice A2 (i+1) c2,.slice E2 (i+1) d2,.int .i64 (zAw F (xs.take i):Int)] 37 (0,0))):=by show _=_;rw [hw9];exact zAD HX8.out 2 _
     have HKP9:Hid (∀ k,k<w5.heap.size→k≠b6→w9.heap[k]? = w5.heap[k]?):=fun k hk hne =>by rw [hw9];exact (zBe hne 2 _).trans (HKP8.out k hk hne)
     rw [← hw9]
     have HW9:=yh hw9
     clear hw9
     obtain ⟨e3E,e4E,hcE9⟩:=HENC.out w9 HKP9.out
     obtain rfl:adE=e3E:=Option.some.inj e4E
     have z9:=zAA (i:=3) HX9.out rfl
     have y9:w9.frozen? ⟨b6,3,none⟩=false:=zAC HX9.out
     have hti1:(xs.take (i+1)).length=i+1:=by rw [List.length_take];have:=HLT.out;omega
     have HNX:Hid (zDa w w5 vi vi b6 F (xs.take (i+1)) (.slice L2 (tabT vi (tbO vi (xs.take i)) r l).length tk2) (w9.setCell ⟨b6,3,none⟩ (.int .i64 (ev:Int)))):=by
      show zDa _ _ _ _ _ _ _ _ _
      rw [HW9.out]
      refine zGD rfl hti1 HX8.out HRC8.out HSAY.out HDP8.out HE8.out ?_ HKP8.out HB8.out HS8.out (Nat.le_of_lt HB6.out) ?_
      ·rw [List.take_add_one,HFX.out]
       show Own _ _ _ (tbO vi (xs.take i++[(r,l,k+1)]))
       rw [zCm];exact HT8.out
      ·rw [List.take_add_one,HFX.out]
       show zAw F (xs.take i++[(r,l,k+1)])=ev
       rw [zCg];exact HEA.out
     have HAT:Hid (atO (xs.take (i+1))=k+1):=by
      show _=_
      rw [List.take_add_one,HFX.out]
      show atO (xs.take i++[(r,l,k+1)])=_
      rw [zBv]
     clear hti1 e4E
     go_wp2
     exact ⟨⟨i+1,_,rfl,HLT.out,by rw [HAT.out];rfl,HNX.out⟩,by show ps.length - (k+1)<ps.length - atO (xs.take i);have:=HG1.out;omega⟩
  ·obtain rfl:i=xs.length:=by omega
   have hta:xs.take xs.length=xs:=List.take_length
   have HSC:=HSTOP.out
   rw [hta] at HT HX HRW ⊢
   have HUDC:=yh (HSC L PL tk F.length pc w5.heap.size wr HS.out HT.out HRPL.out)
   have hne1:¬ (e9=0):=he9
   have hne2:(e9 == 0)=false:=by simpa using he9
   clear HSC hta
   go_wp2_with fail
   refine HUDC.out.mono ?_
   rintro e w1 ⟨A',c',v2,rfl,hd,ho2,hb1⟩
   obtain ⟨L2,tk2,rfl,_⟩:=zAH ho2
   have hb12:=hb1.alloc hb1.size (.cells #[.int .i64 rc0.kind,.string (tx rc0.target),.int .u64 rc0.rule,.slice A' 0 c',.int .u64 rc0.out,.int .u64 rc0.time,.string (tx rc0.tag)] 45)
   have hx1:(w1.alloc (.cells #[.int .i64 rc0.kind,.string (tx rc0.target),.int .u64 rc0.rule,.slice A' 0 c',.int .u64 rc0.out,.int .u64 rc0.time,.string (tx rc0.tag)] 45)).heap[b6]? = _:=(hb12.block b6 (zAO HX.out)).trans HX.out
   have hx0:(w1.alloc (.cells #[.int .i64 rc0.kind,.string (tx rc0.target),.int .u64 rc0.rule,.slice A' 0 c',.int .u64 rc0.out,.int .u64 rc0.time,.string (tx rc0.tag)] 45)).heap[w.heap.size]? = _:=(hb12.block w.heap.size (Nat.lt_of_lt_of_le (zAO HX5.out) HS.out)).trans ((HKP.out w.heap.size (zAO HX5.out) (by have:=HB6.out;omega)).trans HX5.out)
   have HX0:Hid ((w1.alloc (.cells #[.int .i64 rc0.kind,.string (tx rc0.target),.int .u64 rc0.rule,.slice A' 0 c',.int .u64 rc0.out,.int .u64 rc0.time,.string (tx rc0.tag)] 45)).heap[w.heap.size]? = _):=hx0
   have HRWF:=yh (HRW.out.below hb12)
   have HBF:=yh (HBW.out.trans (hb12.mono HBW.out.size))
   have q0:=zAA (i:=0) hx1 rfl;have r0:=zAA (i:=0) hx0 rfl;have y0:(w1.alloc (.cells #[.int .i64 rc0.kind,.string (tx rc0.target),.int .u64 rc0.rule,.slice A' 0 c',.int .u64 rc0.out,.int .u64 rc0.time,.string (tx rc0.tag)] 45)).frozen? ⟨w.heap.size,0,none⟩=false:=zAC hx0;have q1:=zAA (i:=1) hx1 rfl;have r1:=zAA (i:=1) hx0 rfl;have y1:(w1.alloc (.cells #[.int .i64 rc0.kind,.string (tx rc0.target),.int .u64 rc0.rule,.slice A' 0 c',.int .u64 rc0.out,.int .u64 rc0.time,.string (tx rc0.tag)] 45)).frozen? ⟨w.heap.size,1,none⟩=false:=zAC hx0;have q2:=zAA (i:=2) hx1 rfl;have r2:=zAA (i:=2) hx0 rfl;have y2:(w1.alloc (.cells #[.int .i64 rc0.kind,.string (tx rc0.target),.int .u64 rc0.rule,.slice A' 0 c',.int .u64 rc0.out,.int .u64 rc0.time,.string (tx rc0.tag)] 45)).frozen? ⟨w.heap.size,2,none⟩=false:=zAC hx0;have q3:=zAA (i:=3) hx1 rfl;have r3:=zAA (i:=3) hx0 rfl;have y3:(w1.alloc (.cells #[.int .i64 rc0.kind,.string (tx rc0.target),.int .u64 rc0.rule,.slice A' 0 c',.int .u64 rc0.out,.int .u64 rc0.time,.string (tx rc0.tag)] 45)).frozen? ⟨w.heap.size,3,none⟩=false:=zAC hx0
   clear hb12 hx1 hx0 hd ho2 hb1
   go_wp2
   refine bodyPost_ret (zAy Tryz.results11 _ _ w.heap.size _ _ (0,0) _ rfl (zAD (zAD (zAD (zAD HX0.out 0 (.int .i64 vi)) 1 (.slice A1 xs.length c1)) 2 (.slice E xs.length d)) 3 (.int .i64 (zAw F xs:Int))) Tryz.underlying37 rfl (by kernel_rfl)) rfl ?_
   have hg0:=zGH (W:=w1.alloc (.cells #[.int .i64 rc0.kind,.string (tx rc0.target),.int .u64 rc0.rule,.slice A' 0 c',.int .u64 rc0.out,.int .u64 rc0.time,.string (tx rc0.tag)] 45)) (b:=w.heap.size) (.int .i64 vi) (.slice A1 xs.length c1) (.slice E xs.length d) (.int .i64 (zAw F xs:Int))
   refine ⟨⟨A1,E,c1,d,zs,rfl,(HRWF.out.other hg0 HX0.out (by decide) (by decide) (by decide)).less (Nat.le_trans (Nat.le_of_lt HB6.out) (Nat.le_of_lt (zAO HY5.out)))⟩,HBF.out.grown hg0 HBF.out.size (fun k e =>by cases e;exact Nat.le_refl _)⟩
end Go.Proofs.YtoclafdidjpndaaGreatDoor
