/- Texts of one proof. -/
import Derived.Test.YtekchkfjgofnkaaGreatDoorMy24
set_option maxRecDepth 100000
set_option maxHeartbeats 8000000
namespace Go.Proofs.YtekchkfjgofnkaaGreatDoor
open Go.RowKit
theorem zGl {ver:Int} {zs:List Rw} {ps rest:List (List UInt8)} {xs:List Rdd} (hz:zAe ver zs) (hf:∀ z ∈ zs,Fits z.r z.l) (hl:zs.length≤1000) (hps:ps=zAH ver [] zs++rest) (hpl:ps.length≤20000) (h:zGx ver ps xs) :
  ∀ i,i≤zs.length→i≤xs.length∧(xs.take i).map sayR=(zs.take i).map Rw.say∧atO (xs.take i)=(zAH ver [] (zs.take i)).length∧tbO ver (xs.take i)=zAV ver [] (zs.take i)
 | 0,_ =>⟨Nat.zero_le _,rfl,rfl,rfl⟩
 | i+1,hi =>by
  obtain ⟨h1,h2,h3,h4⟩:=zGl hz hf hl hps hpl h i (by omega)
  obtain ⟨z,hzi⟩:∃ z,zs[i]? = some z:=⟨_,List.getElem?_eq_getElem (by omega)⟩
  have hzm:=List.mem_of_getElem? hzi
  have hlen:=zEe (ver:=ver) (tl:=[]) hzi
  have hlf2:=zCx (hz.take i) (by rw [List.length_take];omega)
  have hall:=zIa (ver:=ver) (tl:=[]) hzi
  obtain ⟨n2,hn2⟩:∃ n2,n2=(zAH ver [] (zs.take (i+1))).length:=⟨_,rfl⟩
  have hle:n2≤ps.length:=by
   rw [hps,List.length_append,hall,List.length_append,List.length_append,hn2,hlen.1];omega
  have hpos:0<(payL ver (zAV ver [] (zs.take i)) z.r z.l).length:=by unfold payL;rw [List.length_append];simp
  have hfd:zCK ver (tbO ver (xs.take i)) ((ps.drop (atO (xs.take i))).take (n2 - atO (xs.take i))) z.r z.l:=by
   refine ⟨(hz z hzm).1,(hz z hzm).2,hf z hzm,?_⟩
   rw [h3,h4]
   have e1:n2 - (zAH ver [] (zs.take i)).length=(payL ver (zAV ver [] (zs.take i)) z.r z.l).length:=by rw [hn2,hlen.1];omega
   rw [e1]
   have e2:ps.drop (zAH ver [] (zs.take i)).length=payL ver (zAV ver [] (zs.take i)) z.r z.l++(zAH ver (zAV ver [] (zs.take (i+1))) (zs.drop (i+1))++rest):=by
    rw [hps,hall,List.append_assoc,List.append_assoc,List.drop_left' rfl]
   rw [e2,List.take_left' rfl]
  have hlt2:atO (xs.take i)<n2:=by rw [h3,hn2,hlen.1];omega
  have hxl:i<xs.length:=by
   rcases Nat.lt_or_ge i xs.length with h5 | h5
   ·exact h5
   ·have h6:xs.take i=xs:=List.take_of_length_le h5
    rw [h6] at hfd hlt2
    exact absurd hfd (h.no _ _ _ _ rfl hlt2 hle)
  obtain ⟨x,hx⟩:∃ x,xs[i]? = some x:=⟨_,List.getElem?_eq_getElem hxl⟩
  have hs:=h.chn i x hx
  obtain ⟨e1,e2,e3⟩:=zIQ (by rw [h4];omega) (by omega) hs.lt hs.le hlt2 hle hs.found hfd
  refine ⟨hxl,?_,?_,?_⟩
  ·rw [List.take_add_one,List.take_add_one,hx,hzi,List.map_append,List.map_append,h2]
   show _++[(x.1,x.2.1)]=_++[(z.r,z.l)]
   rw [e2,e3]
  ·rw [List.take_add_one,hx]
   show atO (xs.take i++[x])=_
   rw [zDU,e1,hn2]
  ·rw [List.take_add_one,hx]
   show tbO ver (xs.take i++[x])=_
   rw [zGu,e2,e3,h4,hlen.2]
theorem zPk {ver:Int} {zs:List Rw} {xs:List Rdd} (hz:zAe ver zs) (hf:∀ z ∈ zs,Fits z.r z.l) (hl:zs.length≤1000) (j m:Nat) (hm:m≤zs.length) (hj:(zAH ver [] (zs.take m)).length≤j)
  (hj2:m<zs.length→j<(zAH ver [] (zs.take (m+1))).length) (h:zGx ver ((zAH ver [] zs).take j) xs) :
  xs.length=m∧xs.map sayR=(zs.take m).map Rw.say∧atO xs=(zAH ver [] (zs.take m)).length∧∀ (i:Nat) (x:Rdd),xs[i]? = some x→x.2.2=(zAH ver [] (zs.take (i+1))).length:=by
 obtain ⟨f1,f2,f3,f4⟩:=zCx hz hl
 have hall:=zCg ver [] (zs.take m) (zs.drop m)
 rw [List.take_append_drop] at hall
 have hps:(zAH ver [] zs).take j=zAH ver [] (zs.take m)++(zAH ver (zAV ver [] (zs.take m)) (zs.drop m)).take (j - (zAH ver [] (zs.take m)).length):=by
  rw [hall,List.take_append,List.take_of_length_le hj]
 have hpl:((zAH ver [] zs).take j).length≤20000:=by rw [List.length_take];omega
 have hmt:(zs.take m).length=m:=by rw [List.length_take];omega
 obtain ⟨r1,r2,r3,r4⟩:=zGl (hz.take m) (fun z hzz =>hf z (List.mem_of_mem_take hzz)) (by omega) hps hpl h m (by omega)
 rw [List.take_take,Nat.min_self] at r2 r3 r4
 have hlen:xs.length=m:=by
  rcases Nat.lt_or_ge m xs.length with h5 | h5
  ·obtain ⟨x,hx⟩:∃ x,xs[m]? = some x:=⟨_,List.getElem?_eq_getElem h5⟩
   have hs:=h.chn _ x hx
   have h6:=hs.lt
   have h7:=hs.le
   have hfx:=hs.found
   rw [List.length_take] at h7
   rw [r3,r4] at hfx
   rw [r3] at h6
   rcases Nat.lt_or_ge m zs.length with h8 | h8
   ·obtain ⟨z,hzm⟩:∃ z,zs[m]? = some z:=⟨_,List.getElem?_eq_getElem h8⟩
    have hmem:=List.mem_of_getElem? hzm
    have hlt:=zEe (ver:=ver) (tl:=[]) hzm
    have hat:=zIa (ver:=ver) (tl:=[]) hzm
    have hpos:0<(payL ver (zAV ver [] (zs.take m)) z.r z.l).length:=by unfold payL;rw [List.length_append];simp
    have h9:=hj2 h8
    have hle:(zAH ver [] (zs.take (m+1))).length≤(zAH ver [] zs).length:=zEn ver [] zs (m+1)
    have hfz:zCK ver (zAV ver [] (zs.take m)) (((zAH ver [] zs).drop (zAH ver [] (zs.take m)).length).take ((zAH ver [] (zs.take (m+1))).length - (zAH ver [] (zs.take m)).length)) z.r z.l:=by
     refine ⟨(hz z hmem).1,(hz z hmem).2,hf z hmem,?_⟩
     have e1:(zAH ver [] (zs.take (m+1))).length - (zAH ver [] (zs.take m)).length=(payL ver (zAV ver [] (zs.take m)) z.r z.l).length:=by rw [hlt.1];omega
     rw [e1,hat,List.drop_left' rfl,List.take_left' rfl]
    have hfx2:zCK ver (zAV ver [] (zs.take m)) (((zAH ver [] zs).drop (zAH ver [] (zs.take m)).length).take (x.2.2 - (zAH ver [] (zs.take m)).length)) x.1 x.2.1:=by
     rw [List.drop_take,List.take_take,Nat.min_eq_left (by omega)] at hfx
     exact hfx
    have hlf2:=zCx (hz.take m) (by omega)
    obtain ⟨e1,_,_⟩:=zIQ (by omega) (by omega) h6 (by omega) (by rw [hlt.1];omega) hle hfx2 hfz
    omega
   ·have e:zs.take m=zs:=List.take_of_length_le h8
    rw [e] at h6
    omega
  ·omega
 have hx:xs.take m=xs:=List.take_of_length_le (by omega)
 rw [hx] at r2 r3
 refine ⟨hlen,r2,r3,fun i x hxi =>?_⟩
 have hi:=(List.getElem?_eq_some_iff.1 hxi).1
 have h1:=(zGl (hz.take m) (fun z hzz =>hf z (List.mem_of_mem_take hzz)) (by omega) hps hpl h (i+1) (by omega)).2.2.1
 rw [List.take_add_one,hxi,List.take_take,Nat.min_eq_left (by omega)] at h1
 rw [← h1]
 show _=atO (xs.take i++[x])
 rw [zDU]
theorem zLC (f:Nat→Nat) (n r:Nat) (h0:f 0≤r):∃ j,j≤n∧f j≤r∧(j<n→r<f (j+1)):=by
 induction n with
 | zero =>exact ⟨0,Nat.le_refl _,h0,fun h =>absurd h (by omega)⟩
 | succ n ih =>
  obtain ⟨j,h1,h2,h3⟩:=ih
  by_cases hj:j<n
  ·exact ⟨j,by omega,h2,fun _ =>h3 hj⟩
  ·obtain rfl:j=n:=by omega
   by_cases h:f (j+1)≤r
   ·exact ⟨j+1,Nat.le_refl _,h,fun h =>absurd h (by omega)⟩
   ·exact ⟨j,by omega,h2,fun _ =>by omega⟩
theorem zGd (ps:List (List UInt8)) (i:Nat):∀ j,i≤j→(frs (ps.take i)).length≤(frs (ps.take j)).length:=by
 intro j h
 have e:ps.take j=ps.take i++(ps.take j).drop i:=by
  have h1:=(List.take_append_drop i (ps.take j)).symm
  rwa [List.take_take,Nat.min_eq_left h] at h1
 rw [e,zDH,List.length_append]
 omega
theorem zMx (ps:List (List UInt8)) {i j:Nat} (h:i<j) (hj:j≤ps.length):(frs (ps.take i)).length<(frs (ps.take j)).length:=by
 obtain ⟨p,hp⟩:∃ p,ps[i]? = some p:=⟨_,List.getElem?_eq_getElem (by omega)⟩
 have h1:=congrArg List.length (zEK hp)
 rw [List.length_append] at h1
 have h2:=zSC p
 have h3:=zGd ps (i+1) j (by omega)
 omega
def eo (ver:Int) (zs:List Rw) (i:Nat):Nat:=8+(frs (zAH ver [] (zs.take i))).length
theorem zHD (ver:Int) (zs:List Rw) (i:Nat):eo ver zs i=8+(frs ((zAH ver [] zs).take (zAH ver [] (zs.take i)).length)).length:=by
 unfold eo
 rw [zHr]
theorem zIb (ver:Int) (zs:List Rw) {i j:Nat} (h:i<j) (hj:j≤zs.length):(zAH ver [] (zs.take i)).length<(zAH ver [] (zs.take j)).length:=by
 obtain ⟨z,hz⟩:∃ z,zs[i]? = some z:=⟨_,List.getElem?_eq_getElem (by omega)⟩
 have h1:=(zEe (ver:=ver) (tl:=[]) hz).1
 have hpos:0<(payL ver (zAV ver [] (zs.take i)) z.r z.l).length:=by unfold payL;rw [List.length_append];simp
 have h2:=zEn ver [] (zs.take j) (i+1)
 rw [List.take_take,Nat.min_eq_left (by omega)] at h2
 omega
theorem zJL (ver:Int) (zs:List Rw) {i j:Nat} (h:i<j) (hj:j≤zs.length):eo ver zs i<eo ver zs j:=by
 rw [zHD,zHD]
 have h1:=zMx (zAH ver [] zs) (zIb ver zs h hj) (zEn ver [] zs j)
 omega
theorem zRx (v:Nat) (ver:Int) (zs:List Rw) (hz:zAe ver zs) (hl:zs.length≤1000) (k:Nat) (h8:8≤k) (hk:k≤(zAS v ver zs).length) :
  ∃ m j,m≤zs.length∧(∀ i,i≤zs.length→(eo ver zs i≤k ↔ i≤m))∧frun (k+1) 8 ((zAS v ver zs).take k)=told 8 ((zAH ver [] zs).take j)∧(zAH ver [] (zs.take m)).length≤j∧(m<zs.length→j<(zAH ver [] (zs.take (m+1))).length):=by
 obtain ⟨f1,f2,f3,f4⟩:=zCx hz hl
 have hN:(zAS v ver zs).length=8+(frs (zAH ver [] zs)).length:=by unfold zAS;rw [List.length_append,zBk]
 obtain ⟨ps,hps⟩:∃ ps,ps=zAH ver [] zs:=⟨_,rfl⟩
 obtain ⟨m,m1,m2,m3⟩:=zLC (eo ver zs) zs.length k (by show 8+0≤k;omega)
 obtain ⟨j,j1,j2,j3⟩:=zLC (fun i =>8+(frs (ps.take i)).length) ps.length k (by show 8+0≤k;omega)
 have hlm:(zAH ver [] (zs.take m)).length≤j:=by
  rcases Nat.lt_or_ge j ps.length with h | h
  ·have h1:=j3 h
   rcases Nat.lt_or_ge j (zAH ver [] (zs.take m)).length with h2 | h2
   ·have h3:=zGd ps (j+1) _ h2
    rw [zHD,← hps] at m2
    omega
   ·exact h2
  ·have:=zEn ver [] zs m
   rw [← hps] at this
   omega
 have hlm2:m<zs.length→j<(zAH ver [] (zs.take (m+1))).length:=by
  intro h
  have h1:=m3 h
  rcases Nat.lt_or_ge j (zAH ver [] (zs.take (m+1))).length with h2 | h2
  ·exact h2
  ·have h3:=zGd ps _ _ h2
   rw [zHD,← hps] at h1
   omega
 refine ⟨m,j,m1,fun i hi =>⟨fun h =>?_,fun h =>?_⟩,?_,hlm,hlm2⟩
 ·rcases Nat.lt_or_ge m i with h1 | h1
  ·have h2:=m3 (by omega)
   rcases Nat.lt_or_ge (m+1) i with h3 | h3
   ·have:=zJL ver zs h3 hi
    omega
   ·obtain rfl:i=m+1:=by omega
    omega
  ·exact h1
 ·rcases Nat.lt_or_ge i m with h1 | h1
  ·have:=zJL ver zs h1 m1
   omega
  ·obtain rfl:i=m:=by omega
   exact m2
 ·rw [← hps]
  have hpj:∀ q ∈ ps.take j,pay q:=fun q hq =>f4 q (by rw [← hps];exact List.mem_of_mem_take hq)
  have e0:(zAS v ver zs).take k=hd v++(frs ps).take (k - 8):=by
   unfold zAS
   rw [← hps,List.take_append,zBk,List.take_of_length_le (by rw [zBk];omega)]
  have e1:∃ tail,(frs ps).take (k - 8)=frs (ps.take j)++tail∧(fg (hd v++frs (ps.take j)).length (hd v++(frs (ps.take j)++tail))).2.2≠0:=by
   rcases Nat.lt_or_ge j ps.length with h | h
   ·obtain ⟨p,hp⟩:∃ p,ps[j]? = some p:=⟨_,List.getElem?_eq_getElem h⟩
    have h1:=j3 h
    have h2:=congrArg List.length (zEK hp)
    rw [List.length_append] at h2
    have hpp:pay p:=f4 p (by rw [← hps];exact List.mem_of_getElem? hp)
    have e2:frs ps=frs (ps.take (j+1))++frs (ps.drop (j+1)):=by rw [← zDH,List.take_append_drop]
    refine ⟨(fr p).take (k - 8 - (frs (ps.take j)).length),?_,?_⟩
    ·rw [e2,zEK hp,List.append_assoc,List.take_append,List.take_of_length_le (by omega),List.take_append,List.append_cancel_left_eq]
     have e3:k - 8 - (frs (ps.take j)).length - (fr p).length=0:=by omega
     rw [e3,List.take_zero,List.append_nil]
    ·rw [← List.append_assoc]
     exact zRz _ p _ hpp (by omega)
   ·have e2:ps.take j=ps:=List.take_of_length_le h
    rw [e2] at j2 ⊢
    have e3:k=8+(frs ps).length:=by rw [← hps] at hN;omega
    refine ⟨[],?_,?_⟩
    ·rw [List.append_nil,List.take_of_length_le (by omega)]
    ·rw [List.append_nil,zHG];simp
  obtain ⟨tail,e2,e3⟩:=e1
  have hlen:(hd v++(frs (ps.take j)++tail)).length=k:=by
   have:=congrArg List.length e0
   rw [List.length_take,hN,e2] at this
   omega
  rw [e0,e2]
  have h1:=zIR (ps.take j) (hd v) tail (k+1) hpj
  rw [zIT e3,List.append_nil,zBk,Nat.add_comm,zIS (k+1) _ 8 _ (by omega) (by omega)] at h1
  exact h1
theorem zII {ver:Int} {zs:List Rw} {i j:Nat} (hi:i<zs.length) (hj:(zAH ver [] (zs.take (i+1))).length≤j):zDF (told 8 ((zAH ver [] zs).take j)) (zAH ver [] (zs.take (i+1))).length=eo ver zs (i+1):=by
 have h2:=zIb ver zs (show i<i+1 by omega) hi
 obtain ⟨q,hq⟩:∃ q,(zAH ver [] (zs.take (i+1))).length=q+1:=⟨(zAH ver [] (zs.take (i+1))).length - 1,by omega⟩
 have h3:=zEn ver [] zs (i+1)
 obtain ⟨p,hp⟩:∃ p,((zAH ver [] zs).take j)[q]? = some p:=⟨_,List.getElem?_eq_getElem (by rw [List.length_take];omega)⟩
 have h4:=zHr ver [] zs (i+1)
 rw [hq] at h4
 rw [hq]
 unfold zDF eo
 rw [Nat.add_sub_cancel,zLN _ 8 q p hp,List.take_take,Nat.min_eq_left (by omega),h4]
 rfl
theorem zPC {ver:Int} {zs:List Rw} {xs:List Rdd} {j m:Nat} (hm:m≤zs.length) (hj:(zAH ver [] (zs.take m)).length≤j) (h1:xs.length=m) (h3:atO xs=(zAH ver [] (zs.take m)).length) :
  zDf (told 8 ((zAH ver [] zs).take j)) xs=eo ver zs m:=by
 rcases zHY xs with rfl | ⟨ys,y,rfl⟩
 ·obtain rfl:m=0:=h1.symm
  rfl
 ·rw [List.length_append,List.length_singleton] at h1
  subst h1
  rw [zHL]
  rw [zDU] at h3
  rw [h3]
  exact zII (by omega) hj
theorem zOl {ver:Int} {zs:List Rw} {xs:List Rdd} {j m:Nat} (hm:m≤zs.length) (hj:(zAH ver [] (zs.take m)).length≤j) (h1:xs.length=m) (h4:∀ (i:Nat) (x:Rdd),xs[i]? = some x→x.2.2=(zAH ver [] (zs.take (i+1))).length) :
  xs.map (endV (told 8 ((zAH ver [] zs).take j)))=(List.range m).map fun i =>inv (eo ver zs (i+1)):=by
 refine List.ext_getElem? fun i =>?_
 rcases Nat.lt_or_ge i xs.length with hi | hi
 ·obtain ⟨x,hx⟩:∃ x,xs[i]? = some x:=⟨_,List.getElem?_eq_getElem hi⟩
  rw [List.getElem?_map,hx,List.getElem?_map,List.getElem?_range (by omega)]
  show some (inv (zDF _ x.2.2))=some (inv (eo ver zs (i+1)))
  rw [h4 i x hx,zII (by omega)]
  have h5:=zEn ver [] (zs.take m) (i+1)
  rw [List.take_take,Nat.min_eq_left (by omega)] at h5
  omega
 ·rw [List.getElem?_eq_none (by simpa using hi),List.getElem?_eq_none (by simp;omega)]
open Go.RowKit Go.Shelf
def Mine (w:World) (B:Nat) (v:Value) (bs:List UInt8):Prop :=
 (v=.slice none 0 0∧bs=[]) ∨ ∃ g c cs f,v=.slice (some ⟨g,0,none⟩) bs.length c∧bs.length≤c∧B≤g∧w.heap[g]? = some (.cells cs 5 (f,f+1))∧bs.length≤f∧∀ (i:Nat) (u:Value),(bs.map bv)[i]? = some u→cs[i]? = some u
theorem Mine.keep {w w':World} {B:Nat} {v:Value} {bs:List UInt8} (h:Mine w B v bs) (hk:∀ (g:Nat) (cs:Array Value) (f:Nat×Nat),B≤g→w.heap[g]? = some (.cells cs 5 f)→w'.heap[g]? = w.heap[g]?):Mine w' B v bs:=by
 rcases h with h | ⟨g,c,cs,f,h1,h2,h3,h4,h5,h6⟩
 ·exact .inl h
 ·exact .inr ⟨g,c,cs,f,h1,h2,h3,(hk g cs _ h3 h4).trans h4,h5,h6⟩
theorem Mine.below {w w':World} {B:Nat} {v:Value} {bs:List UInt8} (h:Mine w B v bs) (hb:Below w.heap.size w w'):Mine w' B v bs :=
 h.keep fun g _ _ _ hg =>hb.block g (Array.getElem?_eq_some_iff.1 hg).1
theorem Mine.less {w:World} {B B':Nat} {v:Value} {bs:List UInt8} (h:Mine w B v bs) (hB:B'≤B):Mine w B' v bs:=by
 rcases h with h | ⟨g,c,cs,f,h1,h2,h3,h4,h5,h6⟩
 ·exact .inl h
 ·exact .inr ⟨g,c,cs,f,h1,h2,Nat.le_trans hB h3,h4,h5,h6⟩
theorem Mine.reads {w:World} {B:Nat} {v:Value} {bs:List UInt8} (h:Mine w B v bs):∃ A c,v=.slice A bs.length c∧bs.length≤c∧(A=none→c=0)∧zAD w w.heap.size 1 A bs.length (bs.map bv):=by
 rcases h with ⟨rfl,rfl⟩ | ⟨g,c,cs,f,h1,h2,h3,h4,h5,h6⟩
 ·exact ⟨none,0,rfl,Nat.le_refl _,fun _ =>rfl,zAD.none_⟩
 ·refine ⟨some ⟨g,0,none⟩,c,h1,h2,(fun e =>by cases e),by simp,fun _ =>⟨_,rfl,(Array.getElem?_eq_some_iff.1 h4).1,fun j u hj =>?_⟩⟩
  have h0:Addr.add ⟨g,0,none⟩ j=⟨g,j,none⟩:=by
   unfold Addr.add
   split
   ·rename_i h;rw [h]
   ·simp
  rw [h0]
  simp only [World.cell?,h4]
  simpa using h6 j u hj
theorem zNW (W:World) (bs:List UInt8) (cap:Nat) (hc:bs.length≤cap) :
  Mine (W.alloc (.cells (bytesRow (tx bs) cap) 5 ((bytesRow (tx bs) cap).size,(bytesRow (tx bs) cap).size+1))) W.heap.size (.slice (some ⟨W.heap.size,0,none⟩) (tx bs).size cap) bs:=by
 refine .inr ⟨W.heap.size,cap,bytesRow (tx bs) cap,(bytesRow (tx bs) cap).size,by rw [zDb],hc,Nat.le_refl _,by show (W.heap.push _)[W.heap.size]? = _;simp,?_,?_⟩
 ·have:(bytesRow (tx bs) cap).size=cap:=by
   have:=zDb bs
   simp only [bytesRow,Array.size_append,Array.size_map,Array.size_replicate]
   rw [this];simp [tx];omega
  omega
 ·intro i u hu
  have hlt:=(List.getElem?_eq_some_iff.1 hu).1
  have hlt2:i<bs.length:=by simpa using hlt
  rw [bytesRow_at (tx bs) cap i (by simpa [tx] using hlt2),← hu]
  simp [tx,bv,hlt2]
theorem zOo (A:Option Addr) (n c at_:Nat) (bs:List UInt8) (hc:n≤c) (hn:n≤1073741824) (hat:at_≤n) (w:World) (hl:Laid w) (hr:zAD w w.heap.size 1 A n (bs.map bv)) :
  Calls Tryz.prog 114 #[.slice A n c,.int .i64 (at_:Int)] w fun e w' =>∃ v,e=.returned (.tuple #[v,.int .i64 ((fg at_ bs).2.1:Int),.int .i64 ((fg at_ bs).2.2:Int)])∧Mine w' w.heap.size v (fg at_ bs).1∧Below w.heap.size w w':=by
 have hbn:bs.length=n:=by have:=hr.1;simpa using this
 by_cases h0:at_=n
 ·subst h0
  have e0:fg at_ bs=([],0,6):=by rw [← hbn];exact zHG bs
  rw [e0]
  clear hbn e0
  go_enter Tryz.func114,Tryz.ntmps114
  go_wp2
  go_ret3
  exact ⟨_,rfl,.inl ⟨rfl,rfl⟩,Below.refl _ _⟩
 have hne:((at_:Int) == (n:Int))=false:=by rw [beq_eq_false_iff_ne];omega
 have hnb:at_≠bs.length:=by omega
 have HG0:=zJC A n c at_ 2048 w.heap.size bs hc hn (by omega) hat w hr
 have hfive:(∃ e0,(e0=2∨e0=3∨e0=5)∧bg 2048 at_ bs=([],0,e0)) ∨ ∃ s nx,bg 2048 at_ bs=(s,nx,0):=by
  rcases zHk (most:=2048) (at_:=at_) (bs:=bs) with h | h | h | h
  ·exact .inl ⟨2,by simp,h⟩
  ·exact .inl ⟨3,by simp,h⟩
  ·exact .inl ⟨5,by simp,h⟩
  ·exact .inr h
 rcases hfive with ⟨e0,he0,hg⟩ | ⟨s,nx,hg⟩
 ·rw [zFe hnb hg (by omega)]
  rw [hg] at HG0
  clear hg hbn hnb
  rcases he0 with rfl | rfl | rfl
  all_goals
   have HG:=yh HG0
   clear HG0
   go_enter Tryz.func114,Tryz.ntmps114
   go_wp2_with (go_at_call 137;refine HG.out.mono ?_;rintro e w1 ⟨rfl,rfl⟩;unfold bres)
   go_ret3
   exact ⟨_,rfl,.inl ⟨rfl,rfl⟩,Below.refl _ _⟩
 ·rw [hg] at HG0
  have hb1:=zJB hg
  have hm1:=zKs hg
  by_cases hs:s=[]
  ·subst hs
   rw [zKw hnb hg]
   clear hg hbn hnb hb1
   have HG:=yh HG0
   clear HG0
   have hem:(tx ([]:List UInt8))=⟨#[]⟩:=rfl
   go_enter Tryz.func114,Tryz.ntmps114
   go_wp2_with (go_at_call 137;refine HG.out.mono ?_;rintro e w1 ⟨rfl,rfl⟩;unfold bres;rw [hem])
   go_ret3
   exact ⟨_,rfl,.inl ⟨rfl,rfl⟩,Below.refl _ _⟩
  ·have hse:((tx s).toList == [])=false:=by rw [zBd];simpa using hs
   have hbr:bres (s,nx,0)=.tuple #[.string (tx s),.int .i64 (nx:Int),.int .i64 0]:=rfl
   rw [hbr] at HG0
   have hnx1:at_<nx:=hb1.1
   have hnx2:nx≤n:=by omega
   have HB1:=yh hb1
   clear hbr hb1
   by_cases hsh:n<nx+4
   ·rw [zGb hnb hg hs (by omega)]
    have HG:=yh HG0
    have HR:=yh (zPj A n c (nx:Int) hn (.inr (by omega)) w)
    obtain ⟨t,ht⟩:∃ t,t=tx s:=⟨_,rfl⟩
    rw [← ht] at HG hse
    clear HG0 hg hs hbn hnb ht
    go_enter Tryz.func114,Tryz.ntmps114
    go_wp2_with (first
     | (go_at_call 137;refine HG.out.mono ?_;rintro e w1 ⟨rfl,rfl⟩)
     | (go_at_call 98;refine HR.out.mono ?_;rintro e w1 ⟨rfl,rfl⟩))
    go_ret3
    exact ⟨_,rfl,.inl ⟨rfl,rfl⟩,Below.refl _ _⟩
   ·have hR0:=zLI A n c nx bs hn hc (by omega) w hr
    have hcut:=(hr.take (k:=nx) (by omega)).cut (k:=at_) (cap:=c) (by omega) (by omega)
    simp only [Nat.mul_one] at hcut
    have hlen4:((bs.drop nx).take 4).length=4:=by rw [List.length_take,List.length_drop];omega
    have hrow:((bs.map bv).take nx).drop at_=((bs.drop at_).take (nx - at_)).map bv:=by
     rw [List.map_take,List.map_drop,List.drop_take]
    rw [hrow] at hcut
    have hne2:¬ (c=at_):=by omega
    rw [if_neg hne2] at hcut
    obtain ⟨ad,rfl,hadb,_⟩:=hr.2 (by omega)
    have hS0:=zIB w (.slice (some (ad.add at_)) (nx - at_) (c - at_)) ((bs.drop at_).take (nx - at_)) hl ⟨_,nx - at_,c - at_,rfl,by omega,by omega,hcut⟩
    by_cases hc4:le4 ((bs.drop nx).take 4)=crc ((bs.drop at_).take (nx - at_))
    ·rw [zLj hnb hg hs (by omega) ((zHZ hlen4).1 hc4)]
     rw [hc4] at hR0
     have hmine:=fun (W:World) (cap:Nat) (h1:s.length≤cap) =>zNW W s cap h1
     obtain ⟨q,hq⟩:∃ q,q=crc ((bs.drop at_).take (nx - at_)):=⟨_,rfl⟩
     rw [← hq] at hS0 hR0
     obtain ⟨a,ha⟩:∃ a,a=q.toNat:=⟨_,rfl⟩
     have hwq:wv q=.int .u32 (a:Int):=by rw [wv,ha]
     rw [hwq] at hS0 hR0
     have HG:=yh HG0
     have HR:=yh hR0
     have HS:=yh hS0
     have HM:=yh hmine
     obtain ⟨t,ht⟩:∃ t,t=tx s:=⟨_,rfl⟩
     have hts:t.size=s.length:=by rw [ht,zDb]
     have HTS:=yh hts
     rw [← ht] at HG hse HM
     have kb:=fun W:World =>run_bytes_of_string (P:=Tryz.prog) W 9 59 5 t Tryz.underlying9 Tryz.underlying59 Tryz.underlying5
     clear HG0 hg hs hbn hnb hR0 hS0 hmine hcut hrow hlen4 hc4 hq ha hwq ht hts
     go_enter Tryz.func114,Tryz.ntmps114
     go_wp2_with (first
      | (go_at_call 137;refine HG.out.mono ?_;rintro e w1 ⟨rfl,rfl⟩)
      | (go_at_call 98;refine HR.out.mono ?_;rintro e w1 ⟨rfl,rfl⟩)
      | (go_at_call 99;refine HS.out.mono ?_;rintro e w1 ⟨rfl,rfl⟩))
     go_ret3
     refine ⟨_,rfl,?_,((Below.refl _ w).alloc (Nat.le_refl _) _).drew.alloc (by simp) _⟩
     have h:=HM.out ((w.alloc (.cells #[.slice (some (ad.add at_)) (nx - at_) (c - at_)] 59)).drew) (grownCap (w.alloc (.cells #[.slice (some (ad.add at_)) (nx - at_) (c - at_)] 59)) t.size 0 5) (by rw [← HTS.out];exact grownCap_ge _ _ _ _)
     have h2:=h.less (B':=w.heap.size) (by simp)
     have e:(w.alloc (.cells #[.slice (some (ad.add at_)) (nx - at_) (c - at_)] 59)).drew.heap.size=w.heap.size+1:=by simp
     rw [e] at h2
     exact h2
    ·rw [zMm hnb hg hs (by omega) (fun e4 =>hc4 ((zHZ hlen4).2 e4))]
     obtain ⟨q,hq⟩:∃ q,q=crc ((bs.drop at_).take (nx - at_)):=⟨_,rfl⟩
     obtain ⟨q2,hq2⟩:∃ q2,q2=le4 ((bs.drop nx).take 4):=⟨_,rfl⟩
     rw [← hq] at hS0 hc4
     rw [← hq2] at hR0 hc4
     obtain ⟨a,ha⟩:∃ a,a=q.toNat:=⟨_,rfl⟩
     obtain ⟨b,hb⟩:∃ b,b=q2.toNat:=⟨_,rfl⟩
     have hne3:¬ (b=a):=fun e =>hc4 (BitVec.eq_of_toNat_eq (by omega))
     have hwq:wv q=.int .u32 (a:Int):=by rw [wv,ha]
     have hwq2:wv q2=.int .u32 (b:Int):=by rw [wv,hb]
     rw [hwq] at hS0
     rw [hwq2] at hR0
     have HG:=yh HG0
     have HR:=yh hR0
     have HS:=yh hS0
     obtain ⟨t,ht⟩:∃ t,t=tx s:=⟨_,rfl⟩
     rw [← ht] at HG hse
     clear HG0 hg hs hbn hnb hR0 hS0 hcut hrow hlen4 hc4 hq hq2 ha hb hwq hwq2 ht
     go_enter Tryz.func114,Tryz.ntmps114
     go_wp2_with (first
      | (go_at_call 137;refine HG.out.mono ?_;rintro e w1 ⟨rfl,rfl⟩)
      | (go_at_call 98;refine HR.out.mono ?_;rintro e w1 ⟨rfl,rfl⟩)
      | (go_at_call 99;refine HS.out.mono ?_;rintro e w1 ⟨rfl,rfl⟩))
     go_ret3
     exact ⟨_,rfl,.inl ⟨rfl,rfl⟩,(Below.refl _ w).alloc (Nat.le_refl _) _⟩
theorem zMs (bt:Nat) (ver:Int) (hv:1≤ver∧ver≤3) (r:Rc) (A:Option Addr) (n c:Nat) (l:List Dp) (hm:¬ MayP ver r l) (hn:n≤1000) (hfit:Fits r l) (w:World) (hr:zAD w w.heap.size 3 A n (dps l)) :
  Calls Tryz.prog 95 #[.int .i64 ver,.pointer (some ⟨bt,0,none⟩),.agg #[.int .i64 r.kind,.string (tx r.target),.int .u64 r.rule,.slice A n c,.int .u64 r.out,.int .u64 r.time,.string (tx r.tag)]] w fun e w' =>e=.returned (.tuple #[.slice none 0 0,.int .i64 1])∧Below w.heap.size w w':=by
 have hb0:=(Below.refl w.heap.size w).alloc (Nat.le_refl _) (.cells #[.int .i64 r.kind,.string (tx r.target),.int .u64 r.rule,.slice A n c,.int .u64 r.out,.int .u64 r.time,.string (tx r.tag)] 41)
 have hbx:=zAE w (.cells #[.int .i64 r.kind,.string (tx r.target),.int .u64 r.rule,.slice A n c,.int .u64 r.out,.int .u64 r.time,.string (tx r.tag)] 41)
 have p0:=zAA (i:=0) hbx rfl;have p1:=zAA (i:=1) hbx rfl;have p2:=zAA (i:=2) hbx rfl;have p3:=zAA (i:=3) hbx rfl;have p4:=zAA (i:=4) hbx rfl;have p5:=zAA (i:=5) hbx rfl;have p6:=zAA (i:=6) hbx rfl
 have HB0:=yh hb0
 have hput:=zLG bt ver r A n c l hm hn hfit (w.alloc (.cells #[.int .i64 r.kind,.string (tx r.target),.int .u64 r.rule,.slice A n c,.int .u64 r.out,.int .u64 r.time,.string (tx r.tag)] 41)) ((hr.below hb0).more hb0.size)
 rw [show zHh ver=1 from if_pos hv] at hput
 have HPUT:=yh hput
 clear hb0 hbx hput hm hr hfit
 go_enter Tryz.func95,Tryz.ntmps95
 go_wp2_with fail
 refine HPUT.out.mono ?_
 rintro e w2 ⟨rfl,hb⟩
 have HB2:=yh (HB0.out.trans (hb.mono HB0.out.size))
 clear hb
 go_wp2
 go_ret2
 exact ⟨rfl,HB2.out⟩
theorem zMt (S:Nat→Prop) (bt N n c:Nat) (ver:Int) (tl:List (List UInt8)) (r:Rc) (A:Option Addr) (l:List Dp) (hm:MayP ver r l) (hfit:Fits r l) (hnu:Nums r l) (htl:tl.length≤100000) (hN:N≤100000000) (w:World) (hT:Tab w S bt N tl) (hap:∀ ad,A=some ad→0<n→¬ S ad.block) (hr:zAD w w.heap.size 3 A n (dps l)) (hld:∀ W,Turn S w W→Laid W) :
  Calls Tryz.prog 95 #[.int .i64 ver,.pointer (some ⟨bt,0,none⟩),.agg #[.int .i64 r.kind,.string (tx r.target),.int .u64 r.rule,.slice A n c,.int .u64 r.out,.int .u64 r.time,.string (tx r.tag)]] w fun e w' =>∃ (v:Value) (S':Nat→Prop),e=.returned (.tuple #[v,.int .i64 0])∧w'.ownsRow w.heap.size 5 1 v (frs (payL ver tl r l)).length ((frs (payL ver tl r l)).map bv)∧(∀ g,v.ownBlock=some g→¬ S' g)∧Tab w' S' bt (N+18) (tabT ver tl r l)∧(∀ k,S' k→k<w'.heap.size∧(S k∨w.heap.size≤k))∧Turn S w w':=by
 obtain ⟨iu,hi,hi0,hi1,hi2⟩:=info_parts zCX
 have hb0:=(Below.refl w.heap.size w).alloc (Nat.le_refl _) (.cells #[.int .i64 r.kind,.string (tx r.target),.int .u64 r.rule,.slice A n c,.int .u64 r.out,.int .u64 r.time,.string (tx r.tag)] 41)
 have hbx:=zAE w (.cells #[.int .i64 r.kind,.string (tx r.target),.int .u64 r.rule,.slice A n c,.int .u64 r.out,.int .u64 r.time,.string (tx r.tag)] 41)
 have p0:=zAA (i:=0) hbx rfl;have p1:=zAA (i:=1) hbx rfl;have p2:=zAA (i:=2) hbx rfl;have p3:=zAA (i:=3) hbx rfl;have p4:=zAA (i:=4) hbx rfl;have p5:=zAA (i:=5) hbx rfl;have p6:=zAA (i:=6) hbx rfl
 have HB0:=yh hb0
 have HT0:Hid (Turn S w (w.alloc (.cells #[.int .i64 r.kind,.string (tx r.target),.int .u64 r.rule,.slice A n c,.int .u64 r.out,.int .u64 r.time,.string (tx r.tag)] 41))):=Turn.of_below hb0
 have HPUT:=yh (zFm S bt N n c ver tl r A l hm hfit hnu (by omega) (by omega) (w.alloc (.cells #[.int .i64 r.kind,.string (tx r.target),.int .u64 r.rule,.slice A n c,.int .u64 r.out,.int .u64 r.time,.string (tx r.tag)] 41)) (hT.keep (fun k _ hk =>hb0.block k hk)) hap ((hr.below hb0).more hb0.size))
 have HLD:=yh hld
 have hpp:=zFO hm hnu (by omega:tl.length≤1000000)
 have hpn:=zCr (tl:=tl) hm
 obtain ⟨pl,hpl⟩:∃ pl,pl=payL ver tl r l:=⟨_,rfl⟩
 rw [← hpl] at HPUT hpp hpn ⊢
 have HPP:=yh hpp
 obtain ⟨m,hmm⟩:∃ m,m=pl.length:=⟨_,rfl⟩
 rw [← hmm] at hpn
 have HMM:=yh hmm
 clear hb0 hbx hpp hm hr hfit hnu hT hap hld hpl hmm
 go_enter Tryz.func95,Tryz.ntmps95
 go_wp2_with fail
 refine HPUT.out.mono ?_
 rintro e w2 ⟨va,S2,rfl,ht2,hs2,⟨vs,hrw⟩,htu⟩
 obtain ⟨P1,pc,rfl,_⟩:=zAL hrw.1
 have HT2:Hid (Turn S w w2):=HT0.out.trans htu (fun k hk hs =>hs)
 have HTAB:=yh ht2
 have HS2:Hid (∀ k,S2 k→k<w2.heap.size∧(S k∨w.heap.size≤k)):=fun k hk =>⟨(hs2 k hk).1,(hs2 k hk).2.imp id (fun h =>Nat.le_trans HB0.out.size h)⟩
 have hrd:=zAD.of_own hrw.1
 rw [← HMM.out] at hrd ⊢
 have HRD:=yh hrd
 have HRW:=yh hrw
 clear ht2 hs2 hrw htu hrd HPUT p0 p1 p2 p3 p4 p5 p6
 go_wp2
 go_loopw [10,27] (fun v10 v27 wr =>∃ (k:Nat) (vb:Value),vb=v10∧k≤m∧v27=.int .i64 (k:Int)∧wr.ownsRow w2.heap.size 5 1 vb (frs (pl.take k)).length ((frs (pl.take k)).map bv)∧Below w2.heap.size w2 wr) (fun v10 v27 _ =>m - (intOf v27).toNat)
 case atStart =>exact ⟨0,_,rfl,Nat.zero_le _,rfl,(by show World.ownsRow _ _ _ _ _ 0 [];exact World.ownsRow_nil _ _ _ _),Below.refl _ _⟩
 case round =>
  obtain ⟨k,vb,rfl,hkm,rfl,ho,hb⟩:=hrel
  have HO:=yh ho
  have HB:=yh hb
  have hfl:(frs (pl.take k)).length≤2062 * 19:=by
   have h1:=zEC (pl.take k) (fun q hq =>HPP.out q (List.mem_of_mem_take hq))
   rw [List.length_take] at h1
   have:2062 * min k pl.length≤2062 * 19:=Nat.mul_le_mul_left _ (by have:=HMM.out;omega)
   omega
  by_cases hk:k<m
  ·obtain ⟨p,hp⟩:∃ p,pl[k]? = some p:=⟨_,List.getElem?_eq_getElem (by rw [← HMM.out];exact hk)⟩
   have hpay:=HPP.out p (List.mem_of_getElem? hp)
   obtain ⟨v,hv5,hv6,hv7⟩:=HRW.out.2.2.2 k p hp
   obtain ⟨A6,c6,rfl,hA6⟩:=zAL hv6
   obtain ⟨ad1,u1,rfl,_,hu1,hcell1⟩:=(HRD.out.below hb).at_ (k:=k) hk
   obtain rfl:u1=.slice A6 p.length c6:=by rw [hv5] at hu1;exact (Option.some.inj hu1).symm
   have hq:zAD wr wr.heap.size 1 A6 p.length (p.map bv):=((zAD.of_own hv6).below hb).more hb.size
   have hlw:Laid wr:=HLD.out wr (HT2.out.trans (Turn.of_below (S:=S) hb) (fun _ _ h =>h))
   have HPT:=yh (zJQ none A6 0 0 p.length c6 [] p hpay (by omega) (Nat.le_refl _) (fun _ =>rfl) wr hlw ⟨by simp,fun h =>absurd h (by omega)⟩ hq)
   have HFS:Hid (frs (pl.take k)++fr p=frs (pl.take (k+1))):=(zEK hp).symm
   have hfp:=zKx hpay
   have HFP:=yh hfp
   have HK:Hid (k<m):=hk
   have hk0:(0:Int)≤(k:Int):=by omega
   have hk1:(k:Int)<(m:Int):=by omega
   obtain ⟨pn,hpn2⟩:∃ pn,pn=p.length:=⟨_,rfl⟩
   rw [← hpn2] at hcell1 HPT
   clear hp hpay hv5 hv6 hv7 hA6 hu1 hq hlw hb ho hk hpn2
   go_wp2_with fail
   refine HPT.out.mono ?_
   rintro e w4 ⟨v4,rfl,ho4,hb4⟩
   obtain ⟨A4,c4,rfl,hA4⟩:=zAL ho4
   have HB4:=yh (HB.out.trans (hb4.mono HB.out.size))
   have HR4:=yh (zAD.of_own ho4)
   have HO4:=yh (zAK HO.out hb4)
   have HNE:Hid (([]:List UInt8)++fr p=fr p):=List.nil_append _
   rw [HNE.out] at HR4 ⊢
   clear ho4 hb4
   go_wp2_with (at_builtin;refine zBT _ rfl (.tmp 39) (.tmp 40) 59 rfl w2.heap.size 5 iu (.int .u8 0) 1 Tryz.underlying59 hi hi0 hi1 hi2 rfl vb (frs (pl.take k)).length ((frs (pl.take k)).map bv) rfl HO4.out A4 (fr p).length c4 _ _ rfl hA4 HR4.out (zCW _) (by unfold maxLen;omega) (by omega) HB4.out.size ?_;intro v5 w5 ho5 hg5)
   have HB5:=yh (HB4.out.grown hg5 HB4.out.size (zAG HO4.out))
   have HO5:=yh ho5
   clear ho5 hg5
   (try go_wp2)
   refine ⟨⟨k+1,_,rfl,by have:=HK.out;omega,rfl,?_,HB5.out⟩,by show m - (k+1)<m - k;have:=HK.out;omega⟩
   have h1:=HO5.out
   rw [← List.map_append,HFS.out,← List.length_append,HFS.out] at h1
   exact h1
  ·obtain rfl:k=m:=by omega
   have HTK:Hid (pl.take k=pl):=List.take_of_length_le (by rw [HMM.out];exact Nat.le_refl _)
   rw [HTK.out] at HO
   have HNS:Hid (∀ g,vb.ownBlock=some g→¬ S2 g):=fun g hg hs =>by
    have h1:=zAG HO.out g hg
    have h2:=(HS2.out g hs).1
    omega
   have HTW:=yh (HT2.out.trans (Turn.of_below (S:=S) hb) (fun _ _ h =>h))
   have HSZ:Hid (w.heap.size≤w2.heap.size):=HT2.out.2.2.2.1
   clear ho hb
   go_wp2
   go_ret2
   exact ⟨vb,S2,rfl,zAT HO.out HSZ.out,HNS.out,HTAB.out.keep (fun j _ hj =>HB.out.block j hj),fun j hj =>⟨Nat.lt_of_lt_of_le (HS2.out j hj).1 HB.out.size,(HS2.out j hj).2⟩,HTW.out⟩
end Go.Proofs.YtekchkfjgofnkaaGreatDoor
