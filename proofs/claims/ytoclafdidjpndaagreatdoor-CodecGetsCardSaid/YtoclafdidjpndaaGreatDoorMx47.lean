/- Texts of one proof. -/
import Derived.LaidMore
import Derived.MakeChecks
import Derived.Test.YtoclafdidjpndaaGreatDoorRows
import Derived.Test.YtoclafdidjpndaaGreatDoorMx46
set_option maxRecDepth 100000
set_option maxHeartbeats 8000000
namespace Go.Proofs.YtoclafdidjpndaaGreatDoor
open Go.RowKit
theorem zMM (W:World):(convert 25 9 (.slice none 0 0)).run Tryz.prog W=.ok (.string ⟨#[]⟩) W:=by
 have hem:(tx ([]:List UInt8))=⟨#[]⟩:=rfl
 have h:=zAn (P:=Tryz.prog) (w:=W) (src:=25) (dst:=9) (c:=0) (B:=0) (bs:=[]) Tryz.underlying25 Tryz.underlying5 Tryz.underlying9 (zAE.none_ (A:=none))
 rwa [hem] at h
theorem zIx (ver:Int) (A:Option Addr) (n c:Nat) (xs:List Rw) (hn:n≤maxLen) (hf:∀ x ∈ xs,Fits x.r x.l∧x.n≤maxLen) (w:World) (hl:Laid w) (h:Recs w w.heap.size A n xs) (sm:¬ zCh xs) :
  Calls Tryz.prog 3 #[.int .i64 ver,.slice A n c] w fun e w' =>e=.returned (.bool true)∧Below w.heap.size w w':=by
 have HFX:Hid (∀ W,Below w.heap.size w W→Calls Tryz.prog 6 #[] W fun e w' =>e=.returned (.bool true)∧Below W.heap.size W w'):=fun W hb =>zDF W (hl.below hb)
 have HG:=yh (zEq A n c xs hn hf w h)
 have SM:=yh sm
 clear h hf hl hn sm
 go_enter Tryz.func3,Tryz.ntmps3
 go_wp2_with (first
  | (go_at_call 6;have hk:=HB2.out.size;refine (HFX.out _ HB2.out).mono ?_;rintro e w3 ⟨rfl,hb3⟩;have HB3:=yh (HB2.out.trans (hb3.mono HB2.out.size));clear hb3)
  | (go_at_call 5;refine HG.out.mono ?_;rintro e w2 ⟨he,hb2⟩;obtain rfl:=he.yes SM.out;have HB2:=yh hb2;clear hb2))
 go_ret
 exact ⟨rfl,HB3.out⟩
theorem zHQ (ver en:Int) (hen:en≠0) (A:Option Addr) (n c:Nat) (xs:List Rw) (hn:n≤maxLen) (hf:∀ x ∈ xs,Fits x.r x.l∧x.n≤maxLen) (w:World) (hl:Laid w) (h:Recs w w.heap.size A n xs) (sm:zCh xs)
  (HP:Hid (∀ W,Below w.heap.size w W→Calls Tryz.prog 7 #[.int .i64 ver,.slice A n c] W fun e w' =>e=.returned (.tuple #[.slice none 0 0,.int .i64 en])∧Below W.heap.size W w'))
  (HR:Hid (∀ W,Below w.heap.size w W→Calls Tryz.prog 8 #[.int .i64 ver,.slice A n c] W fun e w' =>(∃ q,e=.returned (.tuple #[.string ⟨#[]⟩,q,.int .i64 en]))∧Below W.heap.size W w')) :
  Calls Tryz.prog 3 #[.int .i64 ver,.slice A n c] w fun e w' =>e=.returned (.bool true)∧Below w.heap.size w w':=by
 have HFX:Hid (∀ W,Below w.heap.size w W→Calls Tryz.prog 6 #[] W fun e w' =>e=.returned (.bool true)∧Below W.heap.size W w'):=fun W hb =>zDF W (hl.below hb)
 have HG:=yh (zEq A n c xs hn hf w h)
 have SM:=yh sm
 have hcn:=zMM
 have hen2:(en == 0)=false:=by simpa using hen
 clear h hf hl hn sm
 go_enter Tryz.func3,Tryz.ntmps3
 go_wp2_with (first
  | (go_at_call 6;have hk:=HB4.out.size;refine (HFX.out _ HB4.out).mono ?_;rintro e w5 ⟨rfl,hb5⟩;have HB5:=yh (HB4.out.trans (hb5.mono HB4.out.size));clear hb5)
  | (go_at_call 8;have hk:=HB3.out.size;refine (HR.out _ HB3.out).mono ?_;rintro e w4 ⟨⟨q,rfl⟩,hb4⟩;have HB4:=yh (HB3.out.trans (hb4.mono HB3.out.size));clear hb4)
  | (go_at_call 7;have hk:=HB2.out.size;refine (HP.out _ HB2.out).mono ?_;rintro e w3 ⟨rfl,hb3⟩;have HB3:=yh (HB2.out.trans (hb3.mono HB2.out.size));clear hb3)
  | (go_at_call 5;refine HG.out.mono ?_;rintro e w2 ⟨he,hb2⟩;obtain rfl:=he.no (fun h =>h SM.out);have HB2:=yh hb2;clear hb2))
 go_ret
 exact ⟨rfl,HB5.out⟩
theorem zBp.read {F:List (List UInt8×Nat)} {xs:List Rdd} {base n:Nat} {A E:Option Addr} {c d:Nat} {zs:List Rw} {w:World} (hn:xs.length=n) (h:zBp F xs base (.slice A n c) (.slice E n d) zs w) :
  Recs w w.heap.size A n zs∧zAE w w.heap.size 1 E n ((xs.map fun x =>zBq F x.2.2).map inv):=by
 have h1:=h.recs
 have h2:=h.ends
 rw [hn] at h1 h2
 refine ⟨⟨zAE.of_own h1,fun z hz =>⟨zAE.of_own (h.deps z hz),fun e =>?_⟩⟩,?_⟩
 ·obtain ⟨A',c',e2,h3⟩:=zAH (h.deps z hz)
  simp only [Value.slice.injEq] at e2
  rw [e2.2.2]
  exact h3 (e2.1▸e)
 ·have e:(xs.map fun x =>zBq F x.2.2).map inv=xs.map (endV F):=by rw [List.map_map];rfl
  rw [e]
  exact zAE.of_own h2
theorem zPb {zs:List Rw} {w:World} {base:Nat} {xs:List Rdd} {F:List (List UInt8×Nat)} {va ve:Value} (h:zBp F xs base va ve zs w) (hs:∀ x ∈ xs,x.2.1.length≤1000000):∀ z ∈ zs,z.n≤1000000:=by
 intro z hz
 have h1:=(h.deps z hz).1
 rw [zAe] at h1
 have h2:z.say ∈ xs.map sayR:=by rw [← h.say];exact List.mem_map_of_mem hz
 obtain ⟨x,hx,e⟩:=List.mem_map.1 h2
 have h3:=hs x hx
 have h4:x.2.1=z.l:=congrArg Prod.snd e
 rw [h4] at h3
 omega
theorem zNb (v:Nat) (hv:1≤v∧v≤3) (A:Option Addr) (n c:Nat) (xs:List Rw) (hn:n≤maxLen) (hf:∀ x ∈ xs,(Fits x.r x.l∧x.n≤maxLen)∧Nums x.r x.l) (w:World) (hl:Laid w) (h:Recs w w.heap.size A n xs) (sm:zCh xs) (hm:zBD (v:Int) xs) :
  Calls Tryz.prog 3 #[.int .i64 (v:Int),.slice A n c] w fun e w' =>e=.returned (.bool true)∧Below w.heap.size w w':=by
 have HL:xs.length=n:=h.len
 have h30:xs.length≤30:=sm.2
 have hf2:∀ x ∈ xs,Fits x.r x.l∧Nums x.r x.l∧x.n≤1000:=fun x hx =>⟨(hf x hx).1.1,(hf x hx).2,by have h1:=(h.2 x hx).1.1;rw [zAe] at h1;have h2:=(sm.1 x hx).2.1;omega⟩
 have rd:∀ W,Below w.heap.size w W→Recs W W.heap.size A n xs:=fun W hb =>(h.below hb).more hb.size
 obtain ⟨f1,f2,f3,f4⟩:=zER hm h30
 obtain ⟨B,hB⟩:∃ B,B=zDA v (v:Int) xs:=⟨_,rfl⟩
 obtain ⟨N,hN⟩:∃ N,N=B.length:=⟨_,rfl⟩
 have hN8:N=8+(frs (zAL (v:Int) [] xs)).length:=by rw [hN,hB];unfold zDA;rw [List.length_append,zCa]
 obtain ⟨es,hes⟩:∃ es:List Nat,es=(List.range n).map (endO (v:Int) xs):=⟨_,rfl⟩
 have heL:endL (v:Int) xs n=es.map inv:=by rw [hes];rfl
 have HFX:Hid (∀ W,Below w.heap.size w W→Calls Tryz.prog 6 #[] W fun e w' =>e=.returned (.bool true)∧Below W.heap.size W w'):=fun W hb =>zDF W (hl.below hb)
 have HG:=yh (zEq A n c xs hn (fun x hx =>(hf x hx).1) w h)
 have HP:Hid (∀ W,Below w.heap.size w W→Calls Tryz.prog 7 #[.int .i64 (v:Int),.slice A n c] W fun e w' =>(∃ A1 c1,e=.returned (.tuple #[.slice A1 N c1,.int .i64 0])∧N≤c1∧zAE w' w'.heap.size 1 A1 N (B.map bv))∧Below W.heap.size W w'):=fun W hb =>by
  refine (zFa v hv xs A n c (by omega) hf2 W (hl.below hb) (rd W hb)).mono ?_
  rintro e w1 ⟨h1,hb1⟩
  refine ⟨?_,hb1⟩
  rcases h1 with ⟨_,u,rfl,ho⟩ | ⟨hno,_⟩
  ·rw [← hB,← hN] at ho
   obtain ⟨A1,c1,rfl,hc1,hr1⟩:=zBE ho
   exact ⟨A1,c1,rfl,hc1,hr1⟩
  ·exact absurd hm hno
 have HR:Hid (∀ W,Below w.heap.size w W→Calls Tryz.prog 8 #[.int .i64 (v:Int),.slice A n c] W fun e w' =>(∃ A2 c2,e=.returned (.tuple #[.string (tx B),.slice A2 n c2,.int .i64 0])∧zAE w' w'.heap.size 1 A2 n (es.map inv))∧Below W.heap.size W w'):=fun W hb =>by
  refine (zIq v hv xs A n c (by omega) (fun x hx =>⟨(hf2 x hx).1,(hf2 x hx).2.1,by have:=(hf2 x hx).2.2;omega⟩) W (rd W hb)).mono ?_
  rintro e w1 ⟨h1,hb1⟩
  refine ⟨?_,hb1⟩
  rcases h1 with ⟨_,u,rfl,ho⟩ | ⟨hno,_⟩
  ·rw [heL] at ho
   obtain ⟨A1,c1,rfl,hc1,hr1⟩:=zBE ho
   exact ⟨A1,c1,by rw [hB],hr1⟩
  ·exact absurd hm hno
 have HGET:Hid (∀ W,Below w.heap.size w W→∀ A1 c1,N≤c1→zAE W W.heap.size 1 A1 N (B.map bv)→Calls Tryz.prog 9 #[.slice A1 N c1] W fun e w' =>(∃ A3 E3 c3 d3 zs,e=.returned (.tuple #[.agg #[.int .i64 (v:Int),.slice A3 n c3,.slice E3 n d3,.int .i64 (N:Int)],.int .i64 0])∧zs.map Rw.say=xs.map Rw.say∧(∀ z ∈ zs,z.n≤1000000)∧Recs w' w'.heap.size A3 n zs∧zAE w' w'.heap.size 1 E3 n (es.map inv))∧Below W.heap.size W w'):=fun W hb A1 c1 hc1 hr1 =>by
  obtain ⟨ys,hys⟩:=zIZ (v:Int) (zAL (v:Int) [] xs) (by omega) (fun s hs =>by have:=(f4 s hs).2;omega)
  obtain ⟨r1,r2,r3⟩:=zGg hm (fun z hz =>(hf2 z hz).1) h30 hys
  obtain ⟨r4,r5⟩:=zKY hm (fun z hz =>(hf2 z hz).1) h30 hys
  obtain ⟨e9,he9,hst,_⟩:=hys.stop
  have hF:told 8 (zAL (v:Int) [] xs)=frun (N+1) 8 B:=by rw [hB];exact (zMF f4 N (by rw [hN,hB];rfl)).symm
  refine (zJL A1 N c1 B hc1 (by omega) v (by rw [hB];exact zPn v hv _) _ hF (by rw [zMN];omega) (zAL (v:Int) [] xs) (zIe _ 8).symm ys (by omega) (fun i x hx =>⟨(hys.chn i x hx).lt,(hys.chn i x hx).le,(hys.chn i x hx).up⟩) e9 (by omega) hst W (hl.below hb) hr1).mono ?_
  rintro e w1 ⟨⟨A3,E3,c3,d3,zs,rfl,hri⟩,hb1⟩
  have hyn:ys.length=n:=by omega
  have hgood:zAw (told 8 (zAL (v:Int) [] xs)) ys=N:=by rw [r5];omega
  obtain ⟨q1,q2⟩:=hri.read rfl
  rw [hyn] at q1 q2
  have q3:(ys.map fun x =>zBq (told 8 (zAL (v:Int) [] xs)) x.2.2).map inv=es.map inv:=by
   rw [List.map_map,← heL,← HL,← r4];rfl
  rw [q3] at q2
  have hsay:zs.map Rw.say=xs.map Rw.say:=by rw [hri.say,r2]
  refine ⟨⟨A3,E3,c3,d3,zs,by rw [hgood,hyn],hsay,zPb hri (fun x hx =>?_),q1,q2⟩,hb1⟩
  have h2:sayR x ∈ xs.map Rw.say:=by rw [← r2];exact List.mem_map_of_mem hx
  obtain ⟨z,hz,e⟩:=List.mem_map.1 h2
  have h4:z.l=x.2.1:=congrArg Prod.snd e
  have h5:=(sm.1 z hz).2.1
  rw [← h4];omega
 have hself:(tx B).size=N:=by rw [hN];simp [tx,ByteArray.size]
 have SM:=yh sm
 have HRD:=yh rd
 have HN30:Hid (n≤30):=by show _≤_;omega
 clear h hf hf2 rd hl hn sm HL h30 f1 f2 f3 f4 hN8 hes heL hm hB hN
 go_enter Tryz.func3,Tryz.ntmps3
 go_wp2_with (first
  | (go_at_call 9;have hk:=HB4.out.size;refine (HGET.out _ HB4.out A1 c1 HC1.out HR14.out).mono ?_;rintro e w5 ⟨⟨A3,E3,c3,d3,zs,rfl,hsay,hzn,hrc,hre⟩,hb5⟩;have HB5:=yh (HB4.out.trans (hb5.mono HB4.out.size));have HR5:=yh ((HR4.out.below hb5).more hb5.size);have HSAY:=yh hsay;have HZN:=yh hzn;have HRC:=yh hrc;have HRE:=yh hre;clear hb5 hsay hzn hrc hre)
  | (go_at_call 8;have hk:=HB3.out.size;refine (HR.out _ HB3.out).mono ?_;rintro e w4 ⟨⟨A2,c2,rfl,hr2⟩,hb4⟩;have HB4:=yh (HB3.out.trans (hb4.mono HB3.out.size));have HR4:=yh hr2;have HR14:=yh ((HR13.out.below hb4).more hb4.size);have hcv:(convert 25 9 (.slice A1 N c1)).run Tryz.prog w4=.ok (.string (tx B)) w4:=zAn Tryz.underlying25 Tryz.underlying5 Tryz.underlying9 HR14.out;clear hb4 hr2)
  | (go_at_call 7;have hk:=HB2.out.size;refine (HP.out _ HB2.out).mono ?_;rintro e w3 ⟨⟨A1,c1,rfl,hc1,hr1⟩,hb3⟩;have HB3:=yh (HB2.out.trans (hb3.mono HB2.out.size));have HC1:=yh hc1;have HR13:=yh hr1;clear hb3 hc1 hr1)
  | (go_at_call 5;refine HG.out.mono ?_;rintro e w2 ⟨he,hb2⟩;obtain rfl:=he.no (fun h =>h SM.out);have HB2:=yh hb2;clear hb2))
 have hx6:=zAG w5 (.cells #[.int .i64 (v:Int),.slice A3 n c3,.slice E3 n d3,.int .i64 (N:Int)] 33)
 have hb56:=(Below.refl w5.heap.size w5).alloc (Nat.le_refl _) (.cells #[.int .i64 (v:Int),.slice A3 n c3,.slice E3 n d3,.int .i64 (N:Int)] 33)
 obtain ⟨w6,hw6⟩:∃ x,x=w5.alloc (.cells #[.int .i64 (v:Int),.slice A3 n c3,.slice E3 n d3,.int .i64 (N:Int)] 33):=⟨_,rfl⟩
 rw [← hw6] at hx6 hb56 ⊢
 refine (HFX.out _ (HB5.out.trans (hb56.mono HB5.out.size))).mono ?_
 rintro e w7 ⟨rfl,hb7⟩
 have hx7:=(hb7.block w5.heap.size (Array.getElem?_eq_some_iff.1 hx6).1).trans hx6
 have hb57:=hb56.trans (hb7.mono hb56.size)
 have HB7:=yh (HB5.out.trans (hb57.mono HB5.out.size))
 have HSM:=yh (zHk (v:Int) (N:Int) A3 A E3 A2 n c3 c d3 c2 zs xs es (by have:=HN30.out;omega) HZN.out HSAY.out w7 ((HRC.out.below hb57).more hb57.size) (HRD.out _ HB7.out) ((HRE.out.below hb57).more hb57.size) ((HR5.out.below hb57).more hb57.size))
 have p0:=zAA (i:=0) hx7 rfl;have p1:=zAA (i:=1) hx7 rfl;have p2:=zAA (i:=2) hx7 rfl;have p3:=zAA (i:=3) hx7 rfl
 clear hx6 hb56 hx7 hb57 hb7
 go_wp2_with (go_at_call 10;refine HSM.out.mono ?_;rintro e w8 ⟨rfl,hb8⟩)
 go_ret
 exact ⟨rfl,HB7.out.trans (hb8.mono HB7.out.size)⟩
theorem zLt (ver:Int) (A:Option Addr) (n c:Nat) (xs:List Rw) (hn:n≤maxLen) (hf:∀ x ∈ xs,(Fits x.r x.l∧x.n≤maxLen)∧Nums x.r x.l) (w:World) (hl:Laid w) (h:Recs w w.heap.size A n xs) :
  Calls Tryz.prog 3 #[.int .i64 ver,.slice A n c] w fun e w' =>e=.returned (.bool true)∧Below w.heap.size w w':=by
 by_cases sm:zCh xs
 ·have HL:xs.length=n:=h.len
  have h30:xs.length≤30:=sm.2
  by_cases hv:1≤ver∧ver≤3
  ·obtain ⟨v,rfl⟩:∃ v:Nat,ver=(v:Int):=⟨ver.toNat,by omega⟩
   have hv2:1≤v∧v≤3:=by omega
   by_cases hm:zBD (v:Int) xs
   ·exact zNb v hv2 A n c xs hn hf w hl h sm hm
   ·have hf2:∀ x ∈ xs,Fits x.r x.l∧Nums x.r x.l∧x.n≤1000:=fun x hx =>⟨(hf x hx).1.1,(hf x hx).2,by have h1:=(h.2 x hx).1.1;rw [zAe] at h1;have h2:=(sm.1 x hx).2.1;omega⟩
    refine zHQ (v:Int) 1 (by omega) A n c xs hn (fun x hx =>(hf x hx).1) w hl h sm (yh fun W hb =>?_) (yh fun W hb =>?_)
    ·refine (zFa v hv2 xs A n c (by omega) hf2 W (hl.below hb) ((h.below hb).more hb.size)).mono ?_
     rintro e w1 ⟨h1,hb1⟩
     rcases h1 with ⟨hy,_⟩ | ⟨_,rfl⟩
     ·exact absurd hy hm
     ·exact ⟨rfl,hb1⟩
    ·refine (zIq v hv2 xs A n c (by omega) (fun x hx =>⟨(hf2 x hx).1,(hf2 x hx).2.1,by have:=(hf2 x hx).2.2;omega⟩) W ((h.below hb).more hb.size)).mono ?_
     rintro e w1 ⟨h1,hb1⟩
     rcases h1 with ⟨hy,_⟩ | ⟨_,u,rfl,_⟩
     ·exact absurd hy hm
     ·exact ⟨⟨u,rfl⟩,hb1⟩
  ·refine zHQ ver 11 (by omega) A n c xs hn (fun x hx =>(hf x hx).1) w hl h sm (yh fun W _ =>zNA ver hv A n c W) (yh fun W _ =>?_)
   refine (zLR ver hv A n c W).mono ?_
   rintro e w1 ⟨u,rfl,_,hb1⟩
   exact ⟨⟨u,rfl⟩,hb1⟩
 ·exact zIx ver A n c xs hn (fun x hx =>(hf x hx).1) w hl h sm
open Go.ChangeShapes Go.WideShapes Go.ChangeAt Go.RowKit
theorem zIb {P:Program} {W:World} {n:String} {g len:Nat} {t e:TypeId} {k:IntKind} {zs:List Int} (hg:P.globalNamed n=some g) (ht0:(P.globals[g]?).map (·.type)=some t)
  (ht:P.underlying t=some (.array len e)) (he:P.underlying e=some (.int k)) (hc:P.cellsOf e=1) (h:laidMet P [(n,.agg (zs.map fun z =>.lit (.int k z)))] W) :
  ∀ (i:Nat) (z:Int),zs[i]? = some z→W.cell? ⟨g,i,none⟩=some (.int k z):=by
 obtain ⟨ps,⟨g',t',cs,fuel,p,q,hg',ht',hvar,hd,_,_⟩,_⟩:=h
 obtain rfl:=Option.some.inj (hg.symm.trans hg')
 obtain rfl:=Option.some.inj (ht0.symm.trans ht')
 obtain ⟨xs,m,rfl,hx,hlen,hxl,hel⟩:=DataW.trod_array ht hd
 simp only [Prod.mk.injEq,DataW.agg.injEq] at hx
 intro i z hz
 have h1:(xs.map (·.1))[i]? = some (.lit (.int k z)):=by rw [← hx.1,List.getElem?_map,hz];rfl
 rw [List.getElem?_map] at h1
 obtain ⟨y,hy,hy1⟩:=Option.map_eq_some_iff.1 h1
 have hi:i<len:=by rw [← hxl];exact (List.getElem?_eq_some_iff.1 hy).1
 have h2:=hel i hi
 rw [hy,hc,Nat.mul_one] at h2
 obtain ⟨n',e1,e2,_⟩:=DataW.trod_int he h2
 rw [e2] at hy1
 have hnz:n'=z:=by simpa using hy1
 subst hnz
 have h3:cs.toList[i]? = some (.int k n'):=by
  have:=congrArg (fun l:List Value =>l[0]?) e1
  simpa [List.getElem?_take,List.getElem?_drop] using this
 rw [World.var?_cell hg hvar i]
 simpa using h3
theorem zOs:Tryz.prog.globalNamed "tephra/crc.halves" = some 0:=by kernel_rfl
theorem zOQ:(Tryz.prog.globals[0]?).map (·.type)=some 120:=by kernel_rfl
theorem zOU:Tryz.prog.cellsOf 87=1:=by kernel_rfl
theorem zJO {W:World} (h:laidMetH Tryz.prog [("tephra/crc.halves",Rows.laid_tephra_crc_halves)] W):Laid W:=by
 rw [MakeChecks.laidMetH_plain _ _ _ (by kernel_rfl)] at h
 have h1:=zIb (zs:=tab.map (fun n:Nat =>(n:Int))) zOs zOQ Tryz.underlying120 Tryz.underlying87 zOU h
 intro i hi
 refine h1 i (tabN i) ?_
 have:∀ j:Fin 16,(tab.map (fun n:Nat =>(n:Int)))[j.val]? = some ((tabN j.val:Nat):Int):=by decide
 exact this ⟨i,hi⟩
theorem zJc {bs:List UInt8} {v:Nat} (h:vg bs=(v,0)):(1≤v∧v≤3)∧8≤bs.length∧bs.take 8=hd v:=by
 unfold vg at h
 split at h
 ·cases h
 rename_i h8
 split at h
 ·cases h
 rename_i h3
 split at h
 ·cases h
 rename_i hs
 split at h
 ·cases h
 rename_i hv
 simp only [Prod.mk.injEq,and_true] at h
 rw [h] at hv
 have h13:1≤v∧v≤3:=by
  refine Classical.byContradiction fun hn =>hv (zDp ?_)
  omega
 have h3:=Classical.not_not.1 h3
 have hs:=Classical.not_not.1 hs
 have e4:bs.take 4=hb v:=by
  have a1:bs.take (3+1)=bs.take 3++(bs.drop 3).take 1:=List.take_add
  rw [show (4:Nat)=3+1 from rfl,a1,h3]
  have h1:∃ x l,bs.drop 3=x :: l:=by
   cases hd:bs.drop 3 with
   | nil =>have:=congrArg List.length hd;rw [List.length_drop] at this;simp at this;omega
   | cons x l =>exact ⟨x,l,rfl⟩
  obtain ⟨x,l,hx⟩:=h1
  rw [hx] at h ⊢
  have h2:x.toNat=v:=h
  rw [← h2]
  unfold hb
  simp
 refine ⟨h13,by omega,?_⟩
 have a2:bs.take (4+4)=bs.take 4++(bs.drop 4).take 4:=List.take_add
 rw [show (8:Nat)=4+4 from rfl,a2,e4,← hs,e4]
 rfl
theorem zEd (bs:List UInt8):∀ (k at_:Nat),at_≤bs.length→4 * (frun k at_ bs).length+at_≤bs.length∧(∀ x ∈ frun k at_ bs,pay x.1)∧∀ (j:Nat) (x:List UInt8×Nat),(frun k at_ bs)[j]? = some x→x.2≤bs.length∧bs.take x.2=bs.take at_++frs (((frun k at_ bs).map (·.1)).take (j+1))
 | 0,at_,h =>by
  refine ⟨by simp [frun];omega,fun x hx =>(by simp [frun] at hx),fun j x hx =>(by simp [frun] at hx)⟩
 | k+1,at_,h =>by
  by_cases he:(fg at_ bs).2.2=0
  ·obtain ⟨p,nx,hfg⟩:∃ p nx,fg at_ bs=(p,nx,0):=⟨(fg at_ bs).1,(fg at_ bs).2.1,by rw [← he]⟩
   obtain ⟨g1,g2,g3,g4⟩:=zHw hfg
   have e:frun (k+1) at_ bs=(p,nx) :: frun k nx bs:=by rw [frun,hfg];rfl
   obtain ⟨i1,i2,i3⟩:=zEd bs k nx g2
   have hl:=congrArg List.length g4
   rw [zIN,List.length_take,List.length_drop] at hl
   have htk:bs.take nx=bs.take at_++fr p:=by
    have a1:bs.take (at_+(nx - at_))=bs.take at_++(bs.drop at_).take (nx - at_):=List.take_add
    rw [show at_+(nx - at_)=nx by omega] at a1
    rw [a1,g4]
   rw [e]
   refine ⟨by rw [List.length_cons];omega,fun x hx =>?_,fun j x hx =>?_⟩
   ·rcases List.mem_cons.1 hx with rfl | hx
    ·exact g3
    ·exact i2 x hx
   ·cases j with
    | zero =>
     obtain rfl:(p,nx)=x:=by simpa using hx
     refine ⟨g2,?_⟩
     rw [htk]
     simp [frs]
    | succ j =>
     obtain ⟨j1,j2⟩:=i3 j x (by simpa using hx)
     refine ⟨j1,?_⟩
     have h2:frs (p :: ((frun k nx bs).map (·.1)).take (j+1))=fr p++frs (((frun k nx bs).map (·.1)).take (j+1)):=rfl
     rw [j2,htk,List.map_cons,List.take_succ_cons,h2,List.append_assoc]
  ·have e:frun (k+1) at_ bs=[]:=zDx he
   rw [e]
   exact ⟨by simpa using h,fun x hx =>(by cases hx),fun j x hx =>(by simp at hx)⟩
theorem zJV (ver:Int):∀ (zs ys:List Rw) (tl:List (List UInt8)),zs.map Rw.say=ys.map Rw.say→zAL ver tl zs=zAL ver tl ys
 | [],[],_,_ =>rfl
 | [],_ :: _,_,h =>by simp at h
 | _ :: _,[],_,h =>by simp at h
 | z :: zs,y :: ys,tl,h =>by
  rw [List.map_cons,List.map_cons,List.cons.injEq] at h
  have h1:z.r=y.r:=congrArg Prod.fst h.1
  have h2:z.l=y.l:=congrArg Prod.snd h.1
  show payL ver tl z.r z.l++zAL ver (tabT ver tl z.r z.l) zs=payL ver tl y.r y.l++zAL ver (tabT ver tl y.r y.l) ys
  rw [h1,h2,zJV ver zs ys _ h.2]
theorem zKz {v k:Nat} {bs:List UInt8} {F:List (List UInt8×Nat)} {ps:List (List UInt8)} {xs:List Rdd} {zs:List Rw} (hv:vg bs=(v,0)) (hF:F=frun k 8 bs) (hps:ps=F.map (·.1)) (hc:Chn (v:Int) ps xs) (hz:zs.map Rw.say=xs.map sayR) :
  zAw F xs≤bs.length∧zDA v (v:Int) zs=bs.take (zAw F xs):=by
 obtain ⟨h13,h8,ht⟩:=zJc hv
 obtain ⟨f1,f2,f3⟩:=zEd bs k 8 h8
 rw [← hF] at f1 f2 f3
 have e1:zs.map Rw.say=(xs.map rw0).map Rw.say:=by rw [hz,List.map_map];rfl
 have e2:zDA v (v:Int) zs=hd v++frs (ps.take (atO xs)):=by
  unfold zDA
  rw [zJV _ _ _ _ e1,Chn.again xs hc]
 rw [e2]
 rcases zEY xs with rfl | ⟨ys,y,rfl⟩
 ·show 8≤_∧hd v++frs (ps.take 0)=bs.take 8
  rw [ht]
  exact ⟨h8,by simp [frs]⟩
 ·obtain ⟨hc1,hs⟩:=hc.init
  have a1:=hs.lt
  have a2:=hs.le
  obtain ⟨j,hj⟩:∃ j,y.2.2=j+1:=⟨y.2.2 - 1,by omega⟩
  have hFl:ps.length=F.length:=by rw [hps,List.length_map]
  obtain ⟨x,hx⟩:∃ x,F[j]? = some x:=⟨_,List.getElem?_eq_getElem (by omega)⟩
  obtain ⟨j1,j2⟩:=f3 j x hx
  have e3:zAw F (ys++[y])=x.2:=by
   rw [zCg]
   unfold zBq
   rw [hj,Nat.add_sub_cancel,hx]
   rfl
  rw [e3,zBv,j2,ht,← hps,hj]
  exact ⟨j1,rfl⟩
theorem zNh {ver:Int} {ps:List (List UInt8)} {xs:List Rdd} {zs:List Rw} (hc:Chn ver ps xs) (hz:zs.map Rw.say=xs.map sayR):∀ z ∈ zs,MayP ver z.r z.l∧Nums z.r z.l∧Fits z.r z.l:=by
 intro z hzm
 have h2:z.say ∈ xs.map sayR:=by rw [← hz];exact List.mem_map_of_mem hzm
 obtain ⟨x,hx,e⟩:=List.mem_map.1 h2
 obtain ⟨i,hi⟩:=List.getElem?_of_mem hx
 have hf:=(hc i x hi).found
 have h3:x.1=z.r:=congrArg Prod.fst e
 have h4:x.2.1=z.l:=congrArg Prod.snd e
 rw [← h3,← h4]
 exact ⟨hf.1,hf.2.1,hf.2.2.1⟩
theorem zKk (A:Option Addr) (n c:Nat) (hn:3000<n) (w:World) (hl:Laid w) :
  Calls Tryz.prog 4 #[.slice A n c] w fun e w' =>e=.returned (.bool true)∧Below w.heap.size w w':=by
 have HFX:=yh (zDF w hl)
 have hd:decide ((n:Int) > 3000)=true:=by simp;omega
 clear hl
 go_enter Tryz.func4,Tryz.ntmps4
 go_wp2_with (go_at_call 6;refine HFX.out.mono ?_;rintro e w3 ⟨rfl,hb3⟩)
 go_ret
 exact ⟨rfl,hb3⟩
theorem zGj {W v:World} {B s n:Nat} {A:Option Addr} {xs:List Value} (hB:B≤W.heap.size) (h:zAE W B s A n xs) (hk:∀ j:Nat,j<W.heap.size→v.heap[j]? = W.heap[j]?):zAE v B s A n xs:=by
 refine ⟨h.1,fun h0 =>?_⟩
 obtain ⟨ad,e,h1,h2⟩:=h.2 h0
 refine ⟨ad,e,h1,fun j u hu =>?_⟩
 have h3:=h2 j u hu
 unfold World.cell? at h3 ⊢
 rw [hk _ (by rw [zAN];omega)]
 exact h3
theorem zLY {W v:World} {b i:Nat} (hk:∀ j:Nat,j<W.heap.size→v.heap[j]? = W.heap[j]?) (hb:b<W.heap.size):v.cell? ⟨b,i,none⟩=W.cell? ⟨b,i,none⟩:=by
 unfold World.cell?
 rw [hk _ hb]
theorem zJB {W:World} {B:Nat} {A:Option Addr} {n N:Nat} {bs:List UInt8} (hN:N≤n) (h:zAE W B 1 A n (bs.map bv)):zAE W B 1 A N ((bs.take N).map bv):=by
 have hl:bs.length=n:=by have:=h.1;simpa using this
 refine ⟨by simp;omega,fun h0 =>?_⟩
 obtain ⟨ad,e,h1,h2⟩:=h.2 (by omega)
 refine ⟨ad,e,h1,fun j u hu =>h2 j u ?_⟩
 rw [List.map_take,List.getElem?_take] at hu
 split at hu
 ·exact hu
 ·cases hu
def zHA (vI en:Int) (m N:Nat) (says:List (Rc×List Dp)) (es:List Nat) (W:World) (e:Ending) (w':World):Prop :=
 (∃ A3 E3 c3 d3 zs,e=.returned (.tuple #[.agg #[.int .i64 vI,.slice A3 m c3,.slice E3 m d3,.int .i64 (N:Int)],.int .i64 en])∧zs.map Rw.say=says∧(∀ z ∈ zs,z.n≤1000)∧Recs w' w'.heap.size A3 m zs∧zAE w' w'.heap.size 1 E3 m (es.map inv))∧Below W.heap.size W w'
theorem zGL (A:Option Addr) (n c:Nat) (hn:n≤3000) (bs:List UInt8) (vI en:Int) (m N:Nat) (hm:m≤1000) (hN:en=0→N≤n) (hc:n≤c) (hA:A=none→c=0) (says:List (Rc×List Dp)) (es:List Nat) (w:World) (hl:Laid w) (hr:zAE w w.heap.size 1 A n (bs.map bv))
  (HG:Hid (∀ W,Below w.heap.size w W→Calls Tryz.prog 9 #[.slice A n c] W (zHA vI en m N says es W)))
  (HR:Hid (∀ W,Below w.heap.size w W→Calls Tryz.prog 11 #[.string (tx bs)] W (zHA vI en m N says es W)))
  (HP:Hid (en=0→∀ W,Below w.heap.size w W→∀ A3 c3 zs,zs.map Rw.say=says→(∀ z ∈ zs,z.n≤1000)→Recs W W.heap.size A3 m zs→Calls Tryz.prog 7 #[.int .i64 vI,.slice A3 m c3] W fun e w' =>(∃ A5 c5,e=.returned (.tuple #[.slice A5 N c5,.int .i64 0])∧zAE w' w'.heap.size 1 A5 N ((bs.take N).map bv))∧Below W.heap.size W w')) :
  Calls Tryz.prog 4 #[.slice A n c] w fun e w' =>e=.returned (.bool true)∧Below w.heap.size w w':=by
 have HFX:Hid (∀ W,Below w.heap.size w W→Calls Tryz.prog 6 #[] W fun e w' =>e=.returned (.bool true)∧Below W.heap.size W w'):=fun W hb =>zDF W (hl.below hb)
 have hd:decide ((n:Int) > 3000)=false:=by simp;omega
 have HRD:Hid (∀ W,Below w.heap.size w W→zAE W W.heap.size 1 A n (bs.map bv)):=fun W hb =>(hr.below hb).more hb.size
 have HM:=yh hm
 have HNN:=yh hN
 have HC:=yh hc
 have HA0:=yh hA
 clear hl hr hm hn hN hc hA
 go_enter Tryz.func4,Tryz.ntmps4
 go_wp2_with fail
 refine (HG.out w (Below.refl _ _)).mono ?_
 rintro e w1 ⟨⟨A3,E3,c3,d3,zs,rfl,hsay,hzn,hrc,hre⟩,hb1⟩
 have hx1:=zAG w1 (.cells #[.int .i64 vI,.slice A3 m c3,.slice E3 m d3,.int .i64 (N:Int)] 33)
 have hb12:=(Below.refl w1.heap.size w1).alloc (Nat.le_refl _) (.cells #[.int .i64 vI,.slice A3 m c3,.slice E3 m d3,.int .i64 (N:Int)] 33)
 obtain ⟨w2,hw2⟩:∃ x,x=w1.alloc (.cells #[.int .i64 vI,.slice A3 m c3,.slice E3 m d3,.int .i64 (N:Int)] 33):=⟨_,rfl⟩
 rw [← hw2] at hx1 hb12
 have HB2:=yh (hb1.trans (hb12.mono hb1.size))
 have HRC:=yh ((hrc.below hb12).more hb12.size)
 have HRE:=yh ((hre.below hb12).more hb12.size)
 have HSAY:=yh hsay
 have HZN:=yh hzn
 have HX1:=yh hx1
 have hcv:(convert 25 9 (.slice A n c)).run Tryz.prog w2=.ok (.string (tx bs)) w2:=zAn Tryz.underlying25 Tryz.underlying5 Tryz.underlying9 (HRD.out _ HB2.out)
 rw [hw2] at hcv
 have HW2:=yh hw2
 clear hsay hzn hrc hre hb1 hb12 hx1 hw2
 go_wp2_with fail
 rw [← HW2.out]
 refine (HR.out _ HB2.out).mono ?_
 rintro e w3 ⟨⟨A4,E4,c4,d4,ys,rfl,hsay,hzn,hrc,hre⟩,hb3⟩
 have hy1:=(hb3.block w1.heap.size (Array.getElem?_eq_some_iff.1 HX1.out).1).trans HX1.out
 have hx3:=zAG w3 (.cells #[.int .i64 vI,.slice A4 m c4,.slice E4 m d4,.int .i64 (N:Int)] 37)
 have hb34:=(Below.refl w3.heap.size w3).alloc (Nat.le_refl _) (.cells #[.int .i64 vI,.slice A4 m c4,.slice E4 m d4,.int .i64 (N:Int)] 37)
 have hy3:=(hb34.block w1.heap.size (Array.getElem?_eq_some_iff.1 hy1).1).trans hy1
 have HB4:=yh ((HB2.out.trans (hb3.mono HB2.out.size)).trans (hb34.mono (HB2.out.trans (hb3.mono HB2.out.size)).size))
 have HSM:=yh (zHk vI (N:Int) A3 A4 E3 E4 m c3 c4 d3 d4 zs ys es (by have:=HM.out;omega) (fun z hz =>by have:=HZN.out z hz;omega) (HSAY.out.trans hsay.symm) _ ((((HRC.out.below hb3).more hb3.size).below hb34).more hb34.size) ((hrc.below hb34).more hb34.size) ((((HRE.out.below hb3).more hb3.size).below hb34).more hb34.size) ((hre.below hb34).more hb34.size))
 have HRC4:=yh ((((HRC.out.below hb3).more hb3.size).below hb34).more hb34.size)
 have HY3:=yh hy3
 have HX3:=yh hx3
 have p0:=zAA (i:=0) hy3 rfl;have p1:=zAA (i:=1) hy3 rfl;have p2:=zAA (i:=2) hy3 rfl;have p3:=zAA (i:=3) hy3 rfl
 have q0:=zAA (i:=0) hx3 rfl;have q1:=zAA (i:=1) hx3 rfl;have q2:=zAA (i:=2) hx3 rfl;have q3:=zAA (i:=3) hx3 rfl
 clear hsay hzn hrc hre hb3 hb34 hx3 hy3 hy1
 go_wp2_with fail
 refine HSM.out.mono ?_
 rintro e w5 ⟨rfl,hb5⟩
 have HB5:=yh (HB4.out.trans (hb5.mono HB4.out.size))
 have hz:=(hb5.block w1.heap.size (Array.getElem?_eq_some_iff.1 HY3.out).1).trans HY3.out
 have HZ:=yh hz
 have HRC5:=yh ((HRC4.out.below hb5).more hb5.size)
 have r0:=zAA (i:=0) hz rfl;have r1:=zAA (i:=1) hz rfl;have r3:=zAA (i:=3) hz rfl
 clear hb5 hz p0 p1 p2 p3 q0 q1 q2 q3
 by_cases hen:en=0
 ·have HP5:=yh (HP.out hen _ HB5.out A3 c3 zs HSAY.out HZN.out HRC5.out)
  have HN:=yh (HNN.out hen)
  subst hen
  go_wp2_with fail
  refine HP5.out.mono ?_
  rintro e w6 ⟨⟨A5,c5,rfl,hr5⟩,hb6⟩
  have HB6:=yh (HB5.out.trans (hb6.mono HB5.out.size))
  have hz6:=(hb6.block w1.heap.size (Array.getElem?_eq_some_iff.1 HZ.out).1).trans HZ.out
  have HZ6:=yh hz6
  have HR5:=yh hr5
  clear hr5 hb6 hz6 r0 r1 r3
  go_wp2_with fail
  have hsl:∀ W:World,(Instr.sliceAt 25 (.slice A n c) none (some (.int .i64 (N:Int))) none).run Tryz.prog W=.ok (.slice A N c) W:=fun W =>by
   have hk0:(0:Int)≤(N:Int):=by omega
   have hkn:=HN.out
   have hcc:=HC.out
   have hkc:(N:Int)≤(c:Int):=by omega
   cases A with
   | none =>
    have hc0:=HA0.out rfl
    have hk2:N=0:=by omega
    subst hc0
    subst hk2
    rfl
   | some ad =>go_simp
  have HSL:=yh hsl
  obtain ⟨T,hT⟩:∃ T,T=bs.take N:=⟨_,rfl⟩
  have HV5:Hid (∀ W:World,(∀ j:Nat,j<w6.heap.size→W.heap[j]? = w6.heap[j]?)→(convert 25 9 (.slice A5 N c5)).run Tryz.prog W=.ok (.string (tx T)) W):=fun W hW =>by rw [hT];exact zAn Tryz.underlying25 Tryz.underlying5 Tryz.underlying9 (zGj (Nat.le_refl _) HR5.out hW)
  have HVA:Hid (∀ W:World,(∀ j:Nat,j<w6.heap.size→W.heap[j]? = w6.heap[j]?)→(convert 25 9 (.slice A N c)).run Tryz.prog W=.ok (.string (tx T)) W):=fun W hW =>by rw [hT];exact zAn Tryz.underlying25 Tryz.underlying5 Tryz.underlying9 (zJB HN.out (zGj (Nat.le_refl _) (HRD.out w6 HB6.out) hW))
  have r3:=zAA (i:=3) HZ6.out rfl
  have HPL:Hid (w1.heap.size<w6.heap.size):=(Array.getElem?_eq_some_iff.1 HZ6.out).1
  refine wp_region_held (S:=fun v =>∀ j:Nat,j<w6.heap.size→v.heap[j]? = w6.heap[j]?) (by kernel_rfl) (show wpAnyH _ _ _ _ _ _ _ _ (w6.drew) from ?_)
  have ONLY:Hid (∀ j:Nat,j<w6.heap.size→w6.drew.heap[j]? = w6.heap[j]?):=fun _ _ =>rfl
  have HD:Hid (Below w.heap.size w w6.drew):=HB6.out.drew
  have HSZ0:Hid (w6.heap.size≤w6.drew.heap.size):=Nat.le_refl _
  obtain ⟨W0,hW0⟩:∃ x,x=w6.drew:=⟨_,rfl⟩
  rw [← hW0] at ONLY HD HSZ0 ⊢
  clear hW0
  refine zAP 0 rfl (by kernel_rfl) (by kernel_rfl) (fun K hK =>?_)
  go_simp
  refine (HFX.out W0 HD.out).mono ?_
  rintro e w7 ⟨rfl,hb7⟩
  have ONLY7:Hid (∀ j:Nat,j<w6.heap.size→w7.heap[j]? = w6.heap[j]?):=fun j h1 =>(hb7.block j (Nat.lt_of_lt_of_le h1 HSZ0.out)).trans (ONLY.out j h1)
  have HB7:=yh (HD.out.trans (hb7.mono HD.out.size))
  clear hb7
  refine hK _ _ ONLY7.out ?_
  clear hK K
  refine zAB 1 (.bool true) rfl (by kernel_rfl) (by kernel_rfl) (by kernel_rfl) (fun _ _ _ h =>h) (by kernel_rfl) ONLY7.out (fun _ _ =>by kernel_rfl) ?_
  refine zAB 2 (.int .i64 0) rfl (by kernel_rfl) (by kernel_rfl) (by kernel_rfl) (fun _ _ _ h =>h) (by kernel_rfl) ONLY7.out (fun _ _ =>by kernel_rfl) ?_
  refine zAB 3 (.bool true) rfl (by kernel_rfl) (by kernel_rfl) (by kernel_rfl) (fun _ _ _ h =>h) (by kernel_rfl) ONLY7.out (by intro v hv;go_simp) ?_
  refine zAB 4 (.bool true) rfl (by kernel_rfl) (by kernel_rfl) (by kernel_rfl) (fun _ _ _ h =>h) (by kernel_rfl) ONLY7.out (fun _ _ =>by kernel_rfl) ?_
  refine zAB 5 (.bool true) rfl (by kernel_rfl) (by kernel_rfl) (by kernel_rfl) (fun _ _ _ h =>h) (by kernel_rfl) ONLY7.out (fun _ _ =>by kernel_rfl) ?_
  refine zAB 6 (.slice A5 N c5) rfl (by kernel_rfl) (by kernel_rfl) (by kernel_rfl) (fun _ _ _ h =>h) (by kernel_rfl) ONLY7.out (fun _ _ =>by kernel_rfl) ?_
  refine zAB 7 (.string (tx T)) rfl (by kernel_rfl) (by kernel_rfl) (by kernel_rfl) (fun _ _ _ h =>h) (by kernel_rfl) ONLY7.out (by intro v hv;have z1:=HV5.out v hv;go_simp) ?_
  refine zAB 8 (.slice A n c) rfl (by kernel_rfl) (by kernel_rfl) (by kernel_rfl) (fun _ _ _ h =>h) (by kernel_rfl) ONLY7.out (fun _ _ =>by kernel_rfl) ?_
  refine zAB 9 (.pointer (some ⟨w1.heap.size,3,none⟩)) rfl (by kernel_rfl) (by kernel_rfl) (by kernel_rfl) (fun _ _ _ h =>h) (by kernel_rfl) ONLY7.out (fun _ _ =>by kernel_rfl) ?_
  refine zAB 10 (.int .i64 (N:Int)) rfl (by kernel_rfl) (by kernel_rfl) (by kernel_rfl) (fun _ _ _ h =>h) (by kernel_rfl) ONLY7.out (by intro v hv;have q:=(zLY hv HPL.out).trans r3;go_simp) ?_
  refine zAB 11 (.slice A N c) rfl (by kernel_rfl) (by kernel_rfl) (by kernel_rfl) (fun _ _ _ h =>h) (by kernel_rfl) ONLY7.out (by intro v hv;have z1:=HSL.out v;go_simp) ?_
  refine zAB 12 (.string (tx T)) rfl (by kernel_rfl) (by kernel_rfl) (by kernel_rfl) (fun _ _ _ h =>h) (by kernel_rfl) ONLY7.out (by intro v hv;have z1:=HVA.out v hv;go_simp) ?_
  refine zAB 13 (.bool true) rfl (by kernel_rfl) (by kernel_rfl) (by kernel_rfl) (fun _ _ _ h =>h) (by kernel_rfl) ONLY7.out (by intro v hv;go_simp) ?_
  refine zAB 14 (.bool true) rfl (by kernel_rfl) (by kernel_rfl) (by kernel_rfl) (fun _ _ _ h =>h) (by kernel_rfl) ONLY7.out (fun _ _ =>by kernel_rfl) ?_
  refine zAB 15 (.bool true) rfl (by kernel_rfl) (by kernel_rfl) (by kernel_rfl) (fun _ _ _ h =>h) (by kernel_rfl) ONLY7.out (fun _ _ =>by kernel_rfl) ?_
  refine wpAnyH_done (by kernel_rfl) ?_ _
  go_simp
  go_wp2
  go_ret
  exact ⟨rfl,HB7.out⟩
 ·have hen2:(en == 0)=false:=by simpa using hen
  go_wp2_with (go_at_call 6;refine (HFX.out _ HB5.out).mono ?_;rintro e w6 ⟨rfl,hb6⟩)
  go_ret
  exact ⟨rfl,HB5.out.trans (hb6.mono HB5.out.size)⟩
theorem zPe {zs:List Rw} {w:World} {base k:Nat} {xs:List Rdd} {F:List (List UInt8×Nat)} {va ve:Value} (h:zBp F xs base va ve zs w) (hs:∀ z ∈ zs,z.l.length≤k):∀ z ∈ zs,z.n≤k:=by
 intro z hz
 have h1:=(h.deps z hz).1
 rw [zAe] at h1
 have h3:=hs z hz
 omega
theorem zLS (A:Option Addr) (n c:Nat) (bs:List UInt8) (hc:n≤c) (hA:A=none→c=0) (w:World) (hl:Laid w) (hr:zAE w w.heap.size 1 A n (bs.map bv)) :
  Calls Tryz.prog 4 #[.slice A n c] w fun e w' =>e=.returned (.bool true)∧Below w.heap.size w w':=by
 have hbl:bs.length=n:=by have:=hr.1;simpa using this
 by_cases hn:3000<n
 ·exact zKk A n c hn w hl
 by_cases he:(vg bs).2=0
 ·obtain ⟨v,hv⟩:∃ v,vg bs=(v,0):=⟨(vg bs).1,by rw [← he]⟩
  obtain ⟨h13,h8,_⟩:=zJc hv
  obtain ⟨F,hF⟩:∃ F,F=frun (n+1) 8 bs:=⟨_,rfl⟩
  obtain ⟨f1,f2,f3⟩:=zEd bs (n+1) 8 h8
  rw [← hF] at f1 f2 f3
  obtain ⟨ps,hps⟩:∃ ps,ps=F.map (·.1):=⟨_,rfl⟩
  have hpl:ps.length=F.length:=by rw [hps,List.length_map]
  have hpp:∀ s ∈ ps,s.length≤3000:=fun s hs =>by
   rw [hps] at hs
   obtain ⟨x,hx,rfl⟩:=List.mem_map.1 hs
   have:=(f2 x hx).2
   omega
  obtain ⟨xs,hxs⟩:=zIZ (v:Int) ps (by omega) hpp
  obtain ⟨b1,b2,b3,_⟩:=Chn.bounds xs hxs.chn
  obtain ⟨e9,he9,hup,hud⟩:=hxs.stop
  have hxl:xs.length≤1000:=by omega
  have hgo:=fun zs hz =>zKz (zs:=zs) hv hF hps hxs.chn hz
  have hgl:zAw F xs≤n:=by
   have:=(hgo (xs.map rw0) (by rw [List.map_map];rfl)).1
   omega
  have hmay:=fun zs hz =>zNh (zs:=zs) hxs.chn hz
  have hln:∀ zs:List Rw,zs.map Rw.say=xs.map sayR→∀ z ∈ zs,z.l.length≤1000:=fun zs hz z hzm =>by
   obtain ⟨_,_,h4,_⟩:=zBM (hmay zs hz z hzm).1
   omega
  have hsaid:∀ (W w1:World) (A3 E3:Option Addr) (c3 d3:Nat) (zs:List Rw),zBp F xs W.heap.size (.slice A3 xs.length c3) (.slice E3 xs.length d3) zs w1→Below W.heap.size W w1→zHA (v:Int) 0 xs.length (zAw F xs) (xs.map sayR) (xs.map fun x =>zBq F x.2.2) W (.returned (.tuple #[.agg #[.int .i64 (v:Int),.slice A3 xs.length c3,.slice E3 xs.length d3,.int .i64 (zAw F xs:Int)],.int .i64 0])) w1:=fun W w1 A3 E3 c3 d3 zs hri hb1 =>by
   obtain ⟨q1,q2⟩:=hri.read rfl
   exact ⟨⟨A3,E3,c3,d3,zs,rfl,hri.say,zPe hri (hln zs hri.say),q1,q2⟩,hb1⟩
  refine zGL A n c (by omega) bs (v:Int) 0 xs.length (zAw F xs) hxl (fun _ =>hgl) hc hA (xs.map sayR) (xs.map fun x =>zBq F x.2.2) w hl hr (yh fun W hb =>?_) (yh fun W hb =>?_) (yh fun _ W hb A3 c3 zs hz hzn hrc =>?_)
  ·refine (zJL A n c bs hc (by omega) v hv F hF (by omega) ps hps xs hxl (fun i x hx =>⟨(hxs.chn i x hx).lt,(hxs.chn i x hx).le,(hxs.chn i x hx).up⟩) e9 (by omega) hup W (hl.below hb) ((hr.below hb).more hb.size)).mono ?_
   rintro e w1 ⟨⟨A3,E3,c3,d3,zs,rfl,hri⟩,hb1⟩
   exact hsaid W w1 A3 E3 c3 d3 zs hri hb1
  ·refine (zMb bs (by omega) v hv F (by rw [hbl];exact hF) (by omega) ps hps xs (fun i x hx =>⟨(hxs.chn i x hx).lt,(hxs.chn i x hx).le,(hxs.chn i x hx).ud⟩) hxl e9 (by omega) hud W).mono ?_
   rintro e w1 ⟨⟨A3,E3,c3,d3,zs,rfl,hri⟩,hb1⟩
   exact hsaid W w1 A3 E3 c3 d3 zs hri hb1
  ·have hm:=hmay zs hz
   refine (zFa v h13 zs A3 xs.length c3 hxl (fun z hzm =>⟨(hm z hzm).2.2,(hm z hzm).2.1,hzn z hzm⟩) W (hl.below hb) hrc).mono ?_
   rintro e w1 ⟨h1,hb1⟩
   refine ⟨?_,hb1⟩
   rcases h1 with ⟨_,u,rfl,ho⟩ | ⟨hno,_⟩
   ·have e1:=(hgo zs hz).2
    have e2:(zDA v (v:Int) zs).length=zAw F xs:=by rw [e1,List.length_take];omega
    rw [e2,e1] at ho
    obtain ⟨A5,c5,rfl,_,hr5⟩:=zBE ho
    exact ⟨A5,c5,rfl,hr5⟩
   ·exact absurd (fun z hzm =>⟨(hm z hzm).1,(hm z hzm).2.1⟩) hno
 ·refine zGL A n c (by omega) bs 0 ((vg bs).2:Int) 0 0 (by omega) (fun h =>absurd h (by omega)) hc hA [] [] w hl hr (yh fun W hb =>?_) (yh fun W hb =>?_) (yh fun h =>absurd h (by omega))
  ·refine (zMe A n c bs hc (by omega) he W (hl.below hb) ((hr.below hb).more hb.size)).mono ?_
   rintro e w1 ⟨rfl,hb1⟩
   exact ⟨⟨none,none,0,0,[],rfl,rfl,by simp,Recs.nil _ _ _,zAE.none_⟩,hb1⟩
  ·refine (zLI bs (by omega) he W).mono ?_
   rintro e w1 ⟨rfl,hb1⟩
   exact ⟨⟨none,none,0,0,[],rfl,rfl,by simp,Recs.nil _ _ _,zAE.none_⟩,hb1⟩
end Go.Proofs.YtoclafdidjpndaaGreatDoor
