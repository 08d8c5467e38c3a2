/- Texts of one proof. -/
import Derived.ArgAppend
import Derived.Deep.RegionWith
import Derived.Lib.SlBytesConst
import Derived.Test.YtoclafdidjpndaaGreatDoorMx20
set_option maxRecDepth 100000
set_option maxHeartbeats 8000000
namespace Go.Proofs.YtoclafdidjpndaaGreatDoor
open Go.RowKit Go.Shelf
theorem zEz {w:World} {base base':Nat} {e:TypeId} {size:Nat} {v:Value} {n:Nat} {xs:List Value} (h:w.ownsRow base e size v n xs) (hb:base'≤base):w.ownsRow base' e size v n xs :=
 ⟨h.1,h.2.imp id fun ⟨g,cap,cur,hv,hg,r⟩ =>⟨g,cap,cur,hv,Nat.le_trans hb hg,r⟩⟩
theorem zKM (W:World) (e:TypeId) (vs:List Value):zAE (W.alloc (.cells vs.toArray e)) (W.heap.size+1) 1 (some ⟨W.heap.size,0,none⟩) vs.length vs :=
 ⟨by simp,fun _ =>⟨_,rfl,by simp,fun j u hu =>by
  have h0:Addr.add ⟨W.heap.size,0,none⟩ j=⟨W.heap.size,j,none⟩:=by
   unfold Addr.add
   split
   ·rename_i h;rw [h]
   ·simp
  rw [h0]
  simp only [World.cell?,World.alloc,Array.getElem?_push_size]
  simpa using hu⟩⟩
def hb (v:Nat):List UInt8:=[84,80,72,UInt8.ofNat v]
def hd (v:Nat):List UInt8:=hb v++lb (crc (hb v))
theorem zKn {v:Nat} (h:v<256):(bv (UInt8.ofNat v))=.int .u8 (v:Int):=zEa h
theorem zNg (v:Int) (h:ver v=false) (w:World):Calls Tryz.prog 13 #[.int .i64 v] w fun e w' =>e=.returned (.tuple #[.slice none 0 0,.int .i64 11])∧w=w':=by
 go_enter Tryz.func13,Tryz.ntmps13
 go_wp2_with (go_at_call 26;refine (zFc _ _).mono ?_;rintro e w1 ⟨rfl,rfl⟩)
 go_ret2
 exact ⟨rfl,rfl⟩
theorem zOW (v:Nat) (h:1≤v∧v≤3) (w:World) (hl:Laid w):Calls Tryz.prog 13 #[.int .i64 (v:Int)] w fun e w' =>∃ u,e=.returned (.tuple #[u,.int .i64 0])∧w'.ownsRow w.heap.size 5 1 u 8 ((hd v).map bv)∧Below w.heap.size w w':=by
 obtain ⟨i0,hi,hz0,hz1,hz2⟩:=info_parts zCT
 have kc:=fun (w:World) (C:Array Value) (n c:Nat) =>Lib.run_convert_bytes_const (P:=Tryz.prog) w 25 5 C n c Tryz.underlying25 Tryz.underlying5
 have hv:ver (v:Int)=true:=zEK (by omega)
 have hw1:IntKind.u8.wrap (v:Int)=(v:Int):=by rw [IntKind.wrap_u8'];omega
 have hmap:(hb v).map bv=[Value.int .u8 84,.int .u8 80,.int .u8 72]++[.int .u8 (v:Int)]:=by
  rw [← zKn (by omega:v<256)];rfl
 have HMAP:=yh hmap
 have HL:=yh hl
 have HV:=yh h
 clear hmap hl h
 have HTPH:Hid (∀ W:World,∀ j u,[Value.int .u8 84,.int .u8 80,.int .u8 72][j]? = some u→((W.alloc (.cells #[Value.int .u8 84,.int .u8 80,.int .u8 72] 5 (3,4))).alloc (.cells #[.int .u8 (v:Int)] 5)).cell? ((⟨W.heap.size,0,none⟩:Addr).add j)=some u):=by
  intro W j u hj
  have h1:=(zFQ W 5 [84,80,72] (3,4)).alloc (by simp) (.cells #[.int .u8 (v:Int)] 5)
  have e:([84,80,72]:List UInt8).map bv=[Value.int .u8 84,.int .u8 80,.int .u8 72]:=by kernel_rfl
  rw [e] at h1
  obtain ⟨ad,e2,_,h3⟩:=h1.2 (by decide)
  cases e2
  exact h3 j u hj
 go_enter Tryz.func13,Tryz.ntmps13
 go_wp2_with (first
  | (go_at_call 26;refine (zFc _ _).mono ?_;rintro e w1 ⟨rfl,rfl⟩)
  | (at_builtin;refine wpList_append_grows _ rfl (.tmp 8) (.tmp 11) 25 rfl 5 i0 (.int .u8 0) 1 1 Tryz.underlying25 hi hz0 hz1 hz2 rfl (by decide) (some ⟨w.heap.size,0,none⟩) 3 3 [.int .u8 84,.int .u8 80,.int .u8 72] rfl (fun e =>by cases e) rfl (fun b e =>by cases e;exact HTPH.out w) ⟨w.heap.size+1,0,none⟩ 1 1 [.int .u8 (v:Int)] rfl rfl ?news (by simp [Value.oneCell']) (by omega) (by unfold maxLen;omega) (by omega) ?_)
  | fail)
 case news =>
  have h:=cell_one_new (w.alloc (.cells #[Value.int .u8 84,.int .u8 80,.int .u8 72] 5 (3,4))) (.int .u8 (v:Int)) 5
  rw [World.size_alloc] at h
  exact h
 intro v' w' ho hg
 have hb1:Below w.heap.size w w':=(((Below.refl _ w).alloc (Nat.le_refl _) _).alloc (by simp) _).grown hg (by simp;omega) (by simp)
 have hls:Laid w':=HL.out.below hb1
 have ho2:w'.ownsRow w.heap.size 5 1 v' 4 ((hb v).map bv):=by rw [HMAP.out];exact zEz ho (by omega)
 have HO:=yh (zIo w.heap.size v' 4 (hb v) (by omega) w' hb1.size hls ho2)
 clear ho hg hls ho2
 go_wp2_with (go_at_call 27;refine HO.out.mono ?_;rintro e w2 ⟨v2,rfl,ho2,hb2⟩;obtain ⟨A2,c2,rfl,hc2,-⟩:=zBE ho2)
 go_ret2
 exact ⟨_,rfl,ho2,hb1.trans hb2⟩
def vg (bs:List UInt8):Nat×Nat :=
 if bs.length<8 then (0,2)
 else if bs.take 3≠[84,80,72] then (0,3)
 else if lb (crc (bs.take 4))≠(bs.drop 4).take 4 then (0,4)
 else if ver ((bs.drop 3).headD 0).toNat=false then (0,11)
 else (((bs.drop 3).headD 0).toNat,0)
theorem zGS {t:List UInt8} (ht:t.length=4) {s:W32}:le4 t=s ↔ lb s=t:=by
 constructor
 ·rintro rfl;exact zQF ht
 ·rintro rfl;exact zPL s
theorem zFp (A:Option Addr) (n c:Nat) (bs:List UInt8) (hc:n≤c) (hn:n≤1073741824) (w:World) (hl:Laid w) (hr:zAE w w.heap.size 1 A n (bs.map bv)) :
  Calls Tryz.prog 19 #[.slice A n c] w fun e w' =>e=.returned (.tuple #[.int .i64 ((vg bs).1:Int),.int .i64 ((vg bs).2:Int)])∧Below w.heap.size w w':=by
 have hbn:bs.length=n:=by have:=hr.1;simpa using this
 have HB:=yh hbn
 have HL:=yh hl
 clear hl
 by_cases h8:n<8
 ·rw [vg,if_pos (by omega)]
  clear hbn
  go_enter Tryz.func19,Tryz.ntmps19
  go_wp2
  go_ret2
  exact ⟨rfl,Below.refl _ _⟩
 obtain ⟨ad,rfl,hadb,hcells⟩:=hr.2 (by omega)
 have ht3:=hr.take (k:=3) (by omega)
 rw [← List.map_take] at ht3
 have hcv:∀ W:World,Hid (W=w)→(convert 25 9 (.slice (some ad) 3 c)).run Tryz.prog W=.ok (.string (tx (bs.take 3))) W:=fun W hW =>by
  cases hW
  exact zAn Tryz.underlying25 Tryz.underlying5 Tryz.underlying9 ht3
 have hcv0:=hcv w rfl
 by_cases h3:bs.take 3=[84,80,72]
 ·obtain ⟨s,hs⟩:∃ s,s=tx (bs.take 3):=⟨_,rfl⟩
  have hs3:(s.toList == [84,80,72])=true:=by rw [hs,zBG,h3];rfl
  rw [← hs] at hcv0
  clear hs hcv ht3
  have hrd:=zJT (some ad) n c 4 bs hn hc (by omega) w hr
  have hr4:=hr.take (k:=4) (by omega)
  rw [← List.map_take] at hr4
  have hsm:=zHE w (.slice (some ad) 4 c) (bs.take 4) HL.out ⟨some ad,4,c,rfl,by omega,by omega,hr4⟩
  have hlen4:((bs.drop 4).take 4).length=4:=by rw [List.length_take,List.length_drop];omega
  obtain ⟨x,hx⟩:∃ x,bs[3]? = some x:=⟨_,List.getElem?_eq_getElem (by omega)⟩
  have hhd:(bs.drop 3).headD 0=x:=by
   have:(bs.drop 3)[0]? = some x:=by rw [List.getElem?_drop];exact hx
   rw [List.headD_eq_head?_getD,List.head?_eq_getElem?,this];rfl
  have hcell:w.cell? (ad.add 3)=some (.int .u8 (x.toNat:Int)):=hcells 3 _ (by rw [List.getElem?_map,hx];rfl)
  have hcell2:w.cell? { block:=ad.block,off:=ad.off+3 }=some (.int .u8 (x.toNat:Int)):=by simpa [Addr.add] using hcell
  have hx256:x.toNat<256:=x.toNat_lt
  rw [vg,if_neg (by omega),if_neg (by simpa using h3),hhd]
  obtain ⟨v,hv⟩:∃ v,v=x.toNat:=⟨_,rfl⟩
  rw [← hv] at hcell2 hx256 ⊢
  clear hcell
  have HRD:=yh hrd
  have HSM:=yh hsm
  have hwr:IntKind.i64.wrap (v:Int)=(v:Int):=by rw [IntKind.wrap_i64];omega
  by_cases hc4:le4 ((bs.drop 4).take 4)=crc (bs.take 4)
  ·have e4:lb (crc (bs.take 4))=(bs.drop 4).take 4:=(zGS hlen4).1 hc4
   rw [if_neg (by simpa using e4)]
   rw [hc4] at HRD
   obtain ⟨q,hq⟩:∃ q,q=crc (bs.take 4):=⟨_,rfl⟩
   rw [← hq] at HRD HSM
   obtain ⟨a,ha⟩:∃ a,a=q.toNat:=⟨_,rfl⟩
   have hwq:wv q=.int .u32 (a:Int):=by rw [wv,ha]
   rw [hwq] at HSM HRD
   clear hrd hsm hcells hr4 hlen4 hx hhd hc4 e4 hq hv h3 hbn ha hwq
   by_cases hvv:ver (v:Int)=true
   ·rw [if_neg (by rw [hvv];simp)]
    have HI:=yh (fun W =>zFc (v:Int) W)
    rw [hvv] at HI
    clear hvv
    go_enter Tryz.func19,Tryz.ntmps19
    go_wp2_with (first
     | (go_at_call 40;refine HRD.out.mono ?_;rintro e w1 ⟨rfl,rfl⟩)
     | (go_at_call 41;refine HSM.out.mono ?_;rintro e w1 ⟨rfl,rfl⟩)
     | (go_at_call 26;refine (HI.out _).mono ?_;rintro e w1 ⟨rfl,rfl⟩))
    go_ret2
    exact ⟨rfl,(Below.refl _ _).alloc (Nat.le_refl _) _⟩
   ·have hvf:ver (v:Int)=false:=by simpa using hvv
    rw [if_pos hvf]
    have HI:=yh (fun W =>zFc (v:Int) W)
    rw [hvf] at HI
    clear hvv hvf
    go_enter Tryz.func19,Tryz.ntmps19
    go_wp2_with (first
     | (go_at_call 40;refine HRD.out.mono ?_;rintro e w1 ⟨rfl,rfl⟩)
     | (go_at_call 41;refine HSM.out.mono ?_;rintro e w1 ⟨rfl,rfl⟩)
     | (go_at_call 26;refine (HI.out _).mono ?_;rintro e w1 ⟨rfl,rfl⟩))
    go_ret2
    exact ⟨rfl,(Below.refl _ _).alloc (Nat.le_refl _) _⟩
  ·rw [if_pos (fun e4 =>hc4 ((zGS hlen4).2 e4))]
   obtain ⟨q,hq⟩:∃ q,q=crc (bs.take 4):=⟨_,rfl⟩
   obtain ⟨q2,hq2⟩:∃ q2,q2=le4 ((bs.drop 4).take 4):=⟨_,rfl⟩
   rw [← hq] at HSM hc4
   rw [← hq2] at HRD hc4
   have hne:((q2.toNat:Int) == (q.toNat:Int))=false:=by
    rw [beq_eq_false_iff_ne];intro e;exact hc4 (BitVec.eq_of_toNat_eq (by omega))
   obtain ⟨a,ha⟩:∃ a,a=q.toNat:=⟨_,rfl⟩
   obtain ⟨b,hb⟩:∃ b,b=q2.toNat:=⟨_,rfl⟩
   rw [← ha,← hb] at hne
   have hwq:wv q=.int .u32 (a:Int):=by rw [wv,ha]
   have hwq2:wv q2=.int .u32 (b:Int):=by rw [wv,hb]
   rw [hwq] at HSM
   rw [hwq2] at HRD
   have hne2:¬ ((b:Int)=(a:Int)):=by simpa using hne
   have hne3:¬ (b=a):=by omega
   clear hrd hsm hcells hr4 hlen4 hx hhd hc4 hq hq2 ha hb hwq hwq2 hv h3 hbn hne
   go_enter Tryz.func19,Tryz.ntmps19
   go_wp2_with (first
    | (go_at_call 40;refine HRD.out.mono ?_;rintro e w1 ⟨rfl,rfl⟩)
    | (go_at_call 41;refine HSM.out.mono ?_;rintro e w1 ⟨rfl,rfl⟩))
   go_ret2
   exact ⟨rfl,(Below.refl _ _).alloc (Nat.le_refl _) _⟩
 ·obtain ⟨s,hs⟩:∃ s,s=tx (bs.take 3):=⟨_,rfl⟩
  have hne:(s.toList == [84,80,72])=false:=by rw [hs,zBG];simpa using h3
  rw [vg,if_neg (by omega),if_pos h3]
  rw [← hs] at hcv0
  clear hs hcv ht3 hcells h3 hbn
  go_enter Tryz.func19,Tryz.ntmps19
  go_wp2
  go_ret2
  exact ⟨rfl,Below.refl _ _⟩
theorem zMv (A L:Option Addr) (n c m d:Nat) (bs p:List UInt8) (hp:pay p) (hbig:n+4096≤1073741824) (hc:n≤c) (hA:A=none→c=0) (w:World) (hl:Laid w)
  (hr:zAE w w.heap.size 1 A n (bs.map bv)) (hq:zAE w w.heap.size 1 L m (p.map bv)) :
  Calls Tryz.prog 30 #[.slice A n c,.slice L m d] w fun e w' =>∃ v,e=.returned (.tuple #[v,.int .i64 0])∧w'.ownsRow w.heap.size 5 1 v (bs++fr p).length ((bs++fr p).map bv)∧Below w.heap.size w w':=by
 have hml:p.length=m:=by have:=hq.1;simpa using this
 have hnl:bs.length=n:=by have:=hr.1;simpa using this
 obtain ⟨hp1,hp2⟩:=hp
 have h0:((m:Int) == 0)=false:=by rw [beq_eq_false_iff_ne];omega
 have h1:decide (2048<(m:Int))=false:=by rw [decide_eq_false_iff_not];omega
 have hbl:(blob p).length≤2048+10:=by rw [zDn];have:=zAZ p.length (by unfold top;omega);omega
 have hcv:Hid ((convert 25 9 (.slice L m d)).run Tryz.prog w=.ok (.string (tx p)) w):=zAn Tryz.underlying25 Tryz.underlying5 Tryz.underlying9 hq
 have hcv0:=hcv.out
 have HPUT:=yh (zId p (by omega) w)
 have HBL:=yh hbl
 have HL:=yh hl
 have HR:=yh hr
 have HNL:=yh hnl
 obtain ⟨s,hs⟩:∃ s,s=tx p:=⟨_,rfl⟩
 rw [← hs] at hcv0 HPUT
 obtain ⟨q,hqq⟩:∃ q,q=blob p:=⟨_,rfl⟩
 have hfr:fr p=q++lb (crc q):=by rw [fr,hqq]
 rw [← hqq] at HPUT HBL
 rw [hfr]
 clear hq hcv hs hqq hfr hp1 hp2 hml hbl hl hr hnl
 have HC:Hid (∀ (w1 w2:World) (v:Value),Below w.heap.size w w1→Below w.heap.size w1 w2→w2.ownsRow w.heap.size 5 1 v (q.length+4) ((q++lb (crc q)).map bv) →
   Calls Tryz.prog 54 #[.slice (some ⟨w2.heap.size,0,none⟩) 2 2] (w2.alloc (.cells #[.slice A n c,v] 25)) fun e w' =>∃ u,e=.returned u∧w'.ownsRow w.heap.size 5 1 u (bs++(q++lb (crc q))).length ((bs++(q++lb (crc q))).map bv)∧Below w.heap.size w w'):=by
  intro w1 w2 v hb1 hb2 ho
  have hb:Below w.heap.size w w2:=hb1.trans hb2
  obtain ⟨A2,c2,rfl,hc2,hr2⟩:=zBE ho
  have hA2:A2=none→c2=0:=fun e =>absurd (by rw [e] at hr2;exact hr2.2 (by omega)) (by simp)
  have hR:zAE (w2.alloc (.cells #[.slice A n c,.slice A2 (q.length+4) c2] 25)) (w2.heap.size+1) 1 (some ⟨w2.heap.size,0,none⟩) 2 [.slice A n c,.slice A2 (q.length+4) c2]:=zKM w2 _ [.slice A n c,.slice A2 (q.length+4) c2]
  have hfl:[bs,q++lb (crc q)].flatten=bs++(q++lb (crc q)):=by simp
  have hlen4:(q++lb (crc q)).length=q.length+4:=by simp [zDU]
  have hq4:q.length+4≤1073741824:=by have:=HBL.out;omega
  have h:=zKP (some ⟨w2.heap.size,0,none⟩) 2 2 [.slice A n c,.slice A2 (q.length+4) c2] [bs,q++lb (crc q)] (by omega)
   (by rw [hfl,List.length_append,hlen4,HNL.out];have:=HBL.out;omega) _ (w2.heap.size+1) (by simp) hR ⟨rfl,fun i v hi =>by
    match i,hi with
    | 0,hi =>cases hi;exact ⟨bs,rfl,A,n,c,rfl,hc,by omega,hA,((HR.out.below hb).alloc hb.size _).more (by have:=hb.size;omega)⟩
    | 1,hi =>cases hi;exact ⟨_,rfl,A2,q.length+4,c2,rfl,hc2,hq4,hA2,(hr2.alloc (Nat.le_refl _) _).more (by omega)⟩
    | k+2,hi =>simp at hi⟩
  rw [hfl] at h
  refine h.mono ?_
  rintro e w' ⟨u,rfl,hu,hbb⟩
  rw [World.size_alloc] at hu hbb
  exact ⟨u,rfl,zEz hu (by have:=hb.size;omega),(hb.alloc hb.size _).trans (hbb.mono (by have:=hb.size;omega))⟩
 have HB0:=HBL.out
 go_enter Tryz.func30,Tryz.ntmps30
 go_wp2_with (first
  | (go_at_call 55;refine HPUT.out.mono ?_;rintro e w1 ⟨v1,rfl,ho1,hb1⟩;have HW:=yh (zIo w.heap.size v1 q.length q (by omega) w1 hb1.size (HL.out.below hb1) ho1);clear ho1)
  | (go_at_call 27;refine HW.out.mono ?_;rintro e w2 ⟨v2,rfl,ho2,hb2⟩;obtain ⟨A2,c2,rfl,hc2,-⟩:=zBE ho2)
  | (go_at_call 54;refine (HC.out w1 w2 _ hb1 hb2 ho2).mono ?_;rintro e w3 ⟨v3,rfl,ho3,hb3⟩))
 go_ret2
 exact ⟨v3,rfl,ho3,hb3⟩
open Go.RowKit
theorem vb10 (n:Nat) (h:n<top):(vb n).length≤10:=zAZ n h
theorem zJK (ver:Int) (tl:List (List UInt8)) (s:List UInt8) (hs:s.length≤64) (ht:tl.length≤1073741824):(nmB ver tl s).length≤74:=by
 unfold nmB
 split
 ·unfold blob
  rw [List.length_append]
  have:=vb10 s.length (by unfold top;omega)
  omega
 ·have h1:=zBc (s:=s) ht
  have:=vb10 (tnum tl s) (by unfold top;omega)
  omega
theorem zLv (ver:Int) (tl:List (List UInt8)) (d:Dp) (hs:d.name.length≤64) (ht:tl.length≤1073741824) (hh:0≤d.hash∧d.hash<18446744073709551616):(fDep ver tl d).length≤84:=by
 unfold fDep depB
 rw [List.length_append]
 have h1:=vb10 d.hash.toNat (zAJ hh).2
 split
 ·have:=zJK ver tl d.name hs ht
  omega
 ·have h2:=zBc (s:=d.name) ht
  have:=vb10 (2 * tnum tl d.name+if d.order then 1 else 0) (by unfold top;split <;> omega)
  omega
theorem zGZ (ver:Int) (tl:List (List UInt8)) (ht:tl.length≤1073741824):∀ l:List Dp,(∀ d ∈ l,d.name.length≤64∧(0≤d.hash∧d.hash<18446744073709551616))→(l.flatMap (fDep ver tl)).length≤84 * l.length
 | [],_ =>by simp
 | d :: l,h =>by
  rw [List.flatMap_cons,List.length_append,List.length_cons]
  have h1:=zLv ver tl d (h d (by simp)).1 ht (h d (by simp)).2
  have h2:=zGZ ver tl ht l (fun x hx =>h x (by simp [hx]))
  omega
theorem zNC {ver:Int} {tl:List (List UInt8)} {r:Rc} {l:List Dp} (hm:MayP ver r l) (hnu:Nums r l) (ht:tl.length≤1073741824):1≤(payB ver tl r l).length∧(payB ver tl r l).length≤2048:=by
 obtain ⟨n1,n2,n3,n4⟩:=zBM hm
 have h1:=zJK ver tl r.target n1 ht
 unfold payB
 split
 ·rw [List.length_cons];omega
 ·rw [List.length_cons]
  simp only [List.length_append]
  have h2:=vb10 r.rule.toNat (zAJ hnu.1).2
  have h3:=vb10 r.out.toNat (zAJ hnu.2.1).2
  have h4:=vb10 r.time.toNat (zAJ hnu.2.2.1).2
  have h5:(zBk ver tl l).length≤10+84 * 16:=by
   unfold zBk
   rw [List.length_append]
   have a1:=vb10 l.length (by unfold top;omega)
   have a2:=zGZ ver tl ht l (fun d hd =>⟨n4 d hd,hnu.2.2.2 d hd⟩)
   omega
  have h6:(if ver<2 then [] else vb r.time.toNat).length≤10:=by
   split
   ·simp
   ·exact h4
  have h7:(if ver<3 then [] else fTag tl r).length≤10:=by
   split
   ·simp
   ·unfold fTag
    have a1:=zBc (s:=r.tag) ht
    split
    ·exact vb10 0 (by unfold top;omega)
    ·exact vb10 _ (by unfold top;omega)
  omega
theorem zEX {ver:Int} {tl:List (List UInt8)} {r:Rc} {l:List Dp} (hm:MayP ver r l) (hnu:Nums r l) (ht:tl.length≤1000000):∀ p ∈ payL ver tl r l,pay p:=by
 intro p hp
 unfold payL at hp
 rcases List.mem_append.1 hp with h | h
 ·have h1:=zEw hm p h
  refine ⟨by cases p with
   | nil =>exact absurd rfl h1.2.1
   | cons a q =>simp,?_⟩
  have h2:∀ (ns tl:List (List UInt8)),(∀ s ∈ ns,s.length≤64)→∀ t ∈ zAS tl ns,t.length≤65:=by
   intro ns
   induction ns with
   | nil =>intro tl _ t ht;cases ht
   | cons s ns ih =>
    intro tl hn t ht
    unfold zAS at ht
    split at ht
    ·exact ih tl (fun x hx =>hn x (by simp [hx])) t ht
    ·rcases List.mem_cons.1 ht with rfl | ht
     ·have:=hn s (by simp)
      simp only [List.length_cons];omega
     ·exact ih _ (fun x hx =>hn x (by simp [hx])) t ht
  unfold freT at h
  split at h
  ·cases h
  ·have:=h2 _ _ (zBn hm).1 p h
   omega
 ·obtain rfl:=List.mem_singleton.1 h
  have h1:=zBb (tl:=tl) hm
  exact zNC hm hnu (by omega)
theorem zFg {p:List UInt8} (h:pay p):(fr p).length≤2062:=by
 rw [zIN]
 unfold blob
 rw [List.length_append]
 have:=vb10 p.length (by unfold top;have:=h.2;omega)
 have:=h.2
 omega
theorem zDi:∀ ps:List (List UInt8),(∀ p ∈ ps,pay p)→(frs ps).length≤2062 * ps.length
 | [],_ =>by simp [frs]
 | p :: ps,h =>by
  unfold frs
  rw [List.length_append,List.length_cons]
  have h1:=zFg (h p (by simp))
  have h2:=zDi ps (fun q hq =>h q (by simp [hq]))
  omega
def zBD (ver:Int) (xs:List Rw):Prop:=∀ x ∈ xs,MayP ver x.r x.l∧Nums x.r x.l
theorem zBD.take {ver:Int} {xs:List Rw} (h:zBD ver xs) (i:Nat):zBD ver (xs.take i):=fun x hx =>h x (List.mem_of_mem_take hx)
theorem zBD.snoc {ver:Int} {xs:List Rw} {i:Nat} {x:Rw} (h:zBD ver (xs.take i)) (hx:xs[i]? = some x) (hm:MayP ver x.r x.l) (hn:Nums x.r x.l):zBD ver (xs.take (i+1)):=by
 intro y hy
 rw [List.take_add_one,hx] at hy
 rcases List.mem_append.1 hy with h1 | h1
 ·exact h y h1
 ·obtain rfl:y=x:=by simpa using h1
  exact ⟨hm,hn⟩
theorem zEW {ver:Int}:∀ (xs:List Rw) (tl:List (List UInt8)),zBD ver xs→tl.length+18 * xs.length≤1000000→∀ p ∈ zAL ver tl xs,pay p
 | [],_,_,_,p,hp =>by cases hp
 | x :: xs,tl,h,hl,p,hp =>by
  have hx:=h x (by simp)
  rw [List.length_cons] at hl
  have hp2:p ∈ payL ver tl x.r x.l++zAL ver (tabT ver tl x.r x.l) xs:=hp
  rcases List.mem_append.1 hp2 with h1 | h1
  ·exact zEX hx.1 hx.2 (by omega) p h1
  ·have h2:=zBb (tl:=tl) hx.1
   exact zEW xs _ (fun y hy =>h y (by simp [hy])) (by omega) p h1
theorem zBD.may {ver:Int} {xs:List Rw} (h:zBD ver xs):∀ x ∈ xs,MayP ver x.r x.l:=fun x hx =>(h x hx).1
def zDA (v:Nat) (ver:Int) (xs:List Rw):List UInt8:=hd v++frs (zAL ver [] xs)
def endO (ver:Int) (xs:List Rw) (i:Nat):Nat:=8+(frs (zAL ver [] (xs.take (i+1)))).length
theorem zER {ver:Int} {xs:List Rw} (h:zBD ver xs) (hl:xs.length≤30):(zAL ver [] xs).length≤570∧(zAb ver [] xs).length≤540∧(frs (zAL ver [] xs)).length≤1175340∧∀ p ∈ zAL ver [] xs,pay p:=by
 have h1:=zEt (ver:=ver) xs [] h.may
 have h2:=zEb (ver:=ver) xs [] h.may
 have h3:=zEW xs [] h (by simp;omega)
 have h4:=zDi _ h3
 simp only [List.length_nil] at h2
 exact ⟨by omega,by omega,by omega,h3⟩
theorem zHU {ver:Int} {xs:List Rw} {i:Nat} {x:Rw} (hx:xs[i]? = some x):frs (zAL ver [] (xs.take (i+1)))=frs (zAL ver [] (xs.take i))++frs (payL ver (zAb ver [] (xs.take i)) x.r x.l)∧zAb ver [] (xs.take (i+1))=tabT ver (zAb ver [] (xs.take i)) x.r x.l:=by
 rw [List.take_add_one,hx]
 show frs (zAL ver [] (xs.take i++[x]))=_∧zAb ver [] (xs.take i++[x])=_
 rw [zCj,zGp,zDS]
 exact ⟨rfl,rfl⟩
theorem zFt {bs:List UInt8} {s:ByteArray} (hs:s=tx bs) (k:Nat) (h:k<s.size):∃ x:UInt8,x.toNat=s[k].toNat∧bs.drop k=x :: bs.drop (k+1):=by
 subst hs
 have hk:k<bs.length:=by rw [zBH] at h;exact h
 exact ⟨bs[k],rfl,List.drop_eq_getElem_cons hk⟩
theorem zGf (r:W32) (x:UInt8) (k:Nat):(r ^^^ (x32 x >>> k)).getLsbD 0=(((r.toNat:Int) % 2) != ((x.toNat:Int) / 2 ^ k % 2)):=by
 have h1:r.getLsbD 0=decide (r.toNat % 2=1):=by rw [BitVec.getLsbD,Nat.testBit_zero]
 have h2:(x32 x >>> k).getLsbD 0=decide (x.toNat / 2 ^ k % 2=1):=by
  rw [BitVec.getLsbD_ushiftRight,BitVec.getLsbD,zDX,Nat.add_zero,Nat.testBit_eq_decide_div_mod_eq]
 have e1:((x.toNat:Int) / 2 ^ k % 2)=((x.toNat / 2 ^ k % 2:Nat):Int):=by simp
 have e2:((r.toNat:Int) % 2)=((r.toNat % 2:Nat):Int):=by simp
 rw [BitVec.getLsbD_xor,h1,h2,e1,e2]
 generalize x.toNat / 2 ^ k=q
 obtain h | h:r.toNat % 2=0∨r.toNat % 2=1:=by omega
 all_goals obtain g | g:q % 2=0∨q % 2=1:=by omega
 all_goals rw [h,g];rfl
theorem zKm {s0 r:W32} {x:UInt8} {k:Nat} (hk:k<8) (h:stn (8 - k) (r ^^^ (x32 x >>> k))=up s0 x) (hu:(((r.toNat:Int) % 2) != ((x.toNat:Int) / 2 ^ k % 2))=false) :
  stn (8 - (k+1)) ((r >>> 1) ^^^ (x32 x >>> (k+1)))=up s0 x:=by
 rw [← zGf] at hu
 rw [← h,show 8 - k=(8 - (k+1))+1 by omega,stn,st,if_neg (by rw [hu];decide),BitVec.ushiftRight_xor_distrib,BitVec.shiftRight_add]
theorem zIu {s0 r:W32} {x:UInt8} {k:Nat} (hk:k<8) (h:stn (8 - k) (r ^^^ (x32 x >>> k))=up s0 x) (hu:(((r.toNat:Int) % 2) != ((x.toNat:Int) / 2 ^ k % 2))=true) :
  stn (8 - (k+1)) ((r >>> 1 ^^^ poly) ^^^ (x32 x >>> (k+1)))=up s0 x:=by
 rw [← zGf] at hu
 rw [← h,show 8 - k=(8 - (k+1))+1 by omega,stn,st,if_pos hu,BitVec.ushiftRight_xor_distrib,BitVec.shiftRight_add]
 congr 1
 ac_rfl
theorem zNK {s0 r:W32} {x:UInt8} (h:stn (8 - 8) (r ^^^ (x32 x >>> 8))=up s0 x):r=up s0 x:=by
 have e:x32 x >>> 8=0#32:=by
  apply BitVec.eq_of_toNat_eq
  rw [BitVec.toNat_ushiftRight,zDX,Nat.shiftRight_eq_div_pow]
  have:=x.toNat_lt
  simp
  omega
 rw [e] at h
 simpa [stn] using h
theorem zOg (r:W32):wv (r >>> 1)=.int .u32 ((r.toNat:Int) / 2):=by
 rw [wv,BitVec.toNat_ushiftRight,Nat.shiftRight_eq_div_pow]
 simp
theorem zOO (r:W32):wv (r >>> 1 ^^^ poly)=.int .u32 (bits .xor .u32 ((r.toNat:Int) / 2) 3988292384):=by
 have hr:=r.isLt
 have e:((r.toNat:Int) / 2)=((r.toNat / 2:Nat):Int):=by simp
 rw [e,wv,BitVec.toNat_xor,BitVec.toNat_ushiftRight,Nat.shiftRight_eq_div_pow]
 exact congrArg (Value.int .u32) (u32_xor_nat (r.toNat / 2) 3988292384 (by omega) (by omega)).symm
def KRel (s0:W32) (x:UInt8) (w:World) (v idx:Value) (wr:World):Prop :=
 ∃ (k:Nat) (r:W32),k≤8∧idx=.int .u64 (k:Int)∧v=wv r∧stn (8 - k) (r ^^^ (x32 x >>> k))=up s0 x∧w=wr
def JRel (bs:List UInt8) (w:World) (v idx:Value) (wr:World):Prop:=∃ j:Nat,j≤bs.length∧idx=.int .i64 (j:Int)∧v=wv (ups ones (bs.take j))∧w=wr
theorem zDh (bs:List UInt8) (hn:bs.length≤1073741824) (w:World) :
  Calls Tryz.prog 32 #[.string (tx bs)] w fun e w' =>e=.returned (wv (crc bs))∧w=w':=by
 obtain ⟨s,hs⟩:∃ s,s=tx bs:=⟨_,rfl⟩
 have hsz:s.size=bs.length:=by rw [hs,zBH]
 rw [← hs]
 have hn':s.size≤1073741824:=by omega
 have HS:=yh hs
 have HSZ:=yh hsz
 clear hs hsz hn
 go_enter Tryz.func32,Tryz.ntmps32
 go_wp2
 go_loopw [3,4] (fun v idx wr =>JRel bs w v idx wr) (fun v idx wr =>s.size - (intOf idx).toNat)
 case atStart =>exact ⟨0,by omega,rfl,rfl,rfl⟩
 case round =>
  obtain ⟨i,hi,rfl,rfl,rfl⟩:=hrel
  rw [← HSZ.out] at hi
  by_cases hlt:i<s.size
  ·obtain ⟨x,hx,hd⟩:=zFt HS.out i hlt
   obtain ⟨v,hv⟩:∃ v,s[i].toNat=v:=⟨_,rfl⟩
   have hv256:v<256:=by rw [← hv];exact s[i].toNat_lt
   obtain ⟨s0,hs0⟩:∃ s0,s0=ups ones (bs.take i):=⟨_,rfl⟩
   rw [← hs0]
   have HS0:=yh hs0
   have HX:=yh (hx.trans hv)
   have HD:=yh hd
   clear hs0 hx hd
   go_wp2
   go_loopw [3,5] (fun v idx wr =>KRel s0 x w v idx wr) (fun v idx wr =>8 - (intOf idx).toNat)
   case atStart =>exact ⟨0,s0,by omega,rfl,rfl,rfl,rfl⟩
   case round =>
    obtain ⟨k,r,hk,rfl,rfl,hst,rfl⟩:=hrel
    have HST:=yh hst
    clear hst
    by_cases hk8:k<8
    ·have hv:wv r=.int .u32 (r.toNat:Int):=rfl
     obtain ⟨c,hc⟩:∃ c,c=r.toNat:=⟨_,rfl⟩
     rw [hv,← hc]
     have hc32:c<4294967296:=by rw [hc];exact r.isLt
     have HC:=yh hc
     clear hv hc
     go_wp2
     ·rename_i h1 h2
      rw [HC.out,← HX.out] at h2
      exact ⟨⟨k+1,_,by omega,by go_num,by rw [HC.out,← zOO],zIu hk8 HST.out h2,rfl⟩,by simp [intOf];omega⟩
     ·rename_i h1 h2
      rw [HC.out,← HX.out] at h2
      exact ⟨⟨k+1,_,by omega,by go_num,by rw [HC.out,← zOg],zKm hk8 HST.out h2,rfl⟩,by simp [intOf];omega⟩
    ·obtain rfl:k=8:=by omega
     have he:=zNK HST.out
     have e1:up s0 x=ups ones (bs.take (i+1)):=by
      have hb:bs[i]? = some x:=by
       have:=congrArg List.head? HD.out
       simpa using this
      rw [List.take_add_one,hb,HS0.out,zDI];rfl
     rw [e1] at he
     rw [he]
     clear hk hk8 e1 he
     generalize hq:wv (ups ones (bs.take (i+1)))=q
     have HQ:=yh hq
     clear hq
     go_wp2
     exact ⟨⟨i+1,by have:=HSZ.out;omega,by go_num,HQ.out.symm,rfl⟩,by simp [intOf];omega⟩
  ·obtain rfl:i=s.size:=by omega
   have hall:bs.take s.size=bs:=List.take_of_length_le (by rw [HSZ.out];omega)
   rw [hall]
   have hv:wv (ups ones bs)=.int .u32 ((ups ones bs).toNat:Int):=rfl
   obtain ⟨a,ha⟩:∃ a,a=(ups ones bs).toNat:=⟨_,rfl⟩
   have ha32:a<4294967296:=by rw [ha];exact (ups ones bs).isLt
   have k1:IntKind.u32.wrap (4294967295 - (a:Int))=((4294967295 - a:Nat):Int):=by rw [IntKind.wrap_u32'];omega
   have hcr:wv (crc bs)=.int .u32 ((4294967295 - a:Nat):Int):=by rw [wv,crc,BitVec.toNat_not,ha]
   obtain ⟨z,hz⟩:∃ z,z=4294967295 - a:=⟨_,rfl⟩
   rw [← hz] at k1 hcr
   rw [hv,← ha]
   have HCR:=yh hcr
   clear hv ha hz hcr hall hi hlt
   go_wp2
   go_ret
   exact ⟨by rw [HCR.out];rfl,rfl⟩
theorem zCv (s:W32) (w:World):Calls Tryz.prog 31 #[wv s] w fun e w' =>e=.returned (.string (tx (lb s)))∧Below w.heap.size w w':=by
 have hv:wv s=.int .u32 (s.toNat:Int):=rfl
 obtain ⟨a,ha⟩:∃ a,a=s.toNat:=⟨_,rfl⟩
 have ha32:a<4294967296:=by rw [ha];exact s.isLt
 obtain ⟨b0,h0⟩:∃ b0,b0=a / 2 ^ (8 * 0) % 256:=⟨_,rfl⟩
 obtain ⟨b1,h1⟩:∃ b1,b1=a / 2 ^ (8 * 1) % 256:=⟨_,rfl⟩
 obtain ⟨b2,h2⟩:∃ b2,b2=a / 2 ^ (8 * 2) % 256:=⟨_,rfl⟩
 obtain ⟨b3,h3⟩:∃ b3,b3=a / 2 ^ (8 * 3) % 256:=⟨_,rfl⟩
 have hm:(lb s).map bv=[.int .u8 (b0:Int),.int .u8 (b1:Int),.int .u8 (b2:Int),.int .u8 (b3:Int)]:=by
  rw [lb,List.map_cons,List.map_cons,List.map_cons,List.map_cons,zES,zES,zES,zES,h0,h1,h2,h3,ha]
  rfl
 have k0:IntKind.u8.wrap ((a:Int) % 256)=(b0:Int):=by rw [IntKind.wrap_u8'];omega
 have k1:IntKind.u8.wrap ((a:Int) / 256 % 256)=(b1:Int):=by rw [IntKind.wrap_u8'];omega
 have k2:IntKind.u8.wrap ((a:Int) / 65536 % 256)=(b2:Int):=by rw [IntKind.wrap_u8'];omega
 have k3:IntKind.u8.wrap ((a:Int) / 16777216)=(b3:Int):=by rw [IntKind.wrap_u8'];omega
 have hcv:=zAn (P:=Tryz.prog) (src:=25) (dst:=9) (c:=4) Tryz.underlying25 Tryz.underlying5 Tryz.underlying9 (zFQ w 5 (lb s) (0,0))
 rw [hm] at hcv
 have hcv2:(convert 25 9 (.slice (some ⟨w.heap.size,0,none⟩) 4 4)).run Tryz.prog (w.alloc (.cells #[.int .u8 (b0:Int),.int .u8 (b1:Int),.int .u8 (b2:Int),.int .u8 (b3:Int)] 5))=.ok (.string (tx (lb s))) (w.alloc (.cells #[.int .u8 (b0:Int),.int .u8 (b1:Int),.int .u8 (b2:Int),.int .u8 (b3:Int)] 5)):=hcv
 generalize tx (lb s)=t at hcv2 ⊢
 rw [hv,← ha]
 clear hv ha h0 h1 h2 h3 hm hcv
 go_enter Tryz.func31,Tryz.ntmps31
 go_wp2
 go_ret
 exact ⟨rfl,(Below.refl _ _).alloc (Nat.le_refl _) _⟩
theorem zHh (n:Nat) (h:n<128) (w:World) :
  Calls Tryz.prog 37 #[.int .u64 (n:Int)] w fun e w' =>e=.returned (.string (tx (vb n)))∧Below w.heap.size w w':=by
 have hcv:(convert 25 9 (.slice (some ⟨w.heap.size,0,none⟩) 1 1)).run Tryz.prog (w.alloc (.cells #[.int .u8 (n:Int)] 5))=.ok (.string (tx [UInt8.ofNat n])) (w.alloc (.cells #[.int .u8 (n:Int)] 5)):=by
  rw [← zEa (show n<256 by omega)]
  exact zAn Tryz.underlying25 Tryz.underlying5 Tryz.underlying9 (zHf w 5 _)
 rw [zCO h]
 go_enter Tryz.func37,Tryz.ntmps37
 go_wp2
 go_ret
 exact ⟨rfl,(Below.refl _ _).alloc (Nat.le_refl _) _⟩
theorem zMD (n:Nat) (h:¬ n<128) (hlen:(vb (n / 128)).length≤10) (hw:IntKind.u64.wrap ((n / 128:Nat):Int)=((n / 128:Nat):Int)) (ih:∀ w,Calls Tryz.prog 37 #[.int .u64 ((n / 128:Nat):Int)] w fun e w' =>e=.returned (.string (tx (vb (n / 128))))∧Below w.heap.size w w') (w:World) :
  Calls Tryz.prog 37 #[.int .u64 (n:Int)] w fun e w' =>e=.returned (.string (tx (vb n)))∧Below w.heap.size w w':=by
 rw [zFZ (by omega)]
 obtain ⟨r,hr⟩:∃ r,r=n % 128:=⟨_,rfl⟩
 obtain ⟨q,hq⟩:∃ q,q=n / 128:=⟨_,rfl⟩
 have hr128:r<128:=by omega
 have a1:(n:Int).tmod 128=(r:Int):=by rw [Int.tmod_eq_emod_of_nonneg (by omega)];omega
 have a2:IntKind.u8.wrap (r:Int)=(r:Int):=by rw [IntKind.wrap_u8];omega
 have a3:IntKind.u8.wrap ((r:Int)+128)=(r:Int)+128:=by rw [IntKind.wrap_u8];omega
 have a4:(n:Int) / 128=(q:Int):=by omega
 rw [← hq] at ih hw hlen ⊢
 rw [← hr]
 have IH:=yh ih
 clear ih
 obtain ⟨x,hx⟩:∃ x,x=UInt8.ofNat (r+128):=⟨_,rfl⟩
 have hbx:bv x=.int .u8 ((r:Int)+128):=by rw [hx,zEa (by omega)];rfl
 have hone:∀ W:World,zAE (W.alloc (.cells #[.int .u8 ((r:Int)+128)] 5)) (W.heap.size+1) 1 (some ⟨W.heap.size,0,none⟩) 1 ([x].map bv):=by
  intro W
  rw [← hbx]
  exact zHf W 5 x
 have HONE:=yh hone
 clear hone
 have hcvA:∀ W:World,(convert 25 9 (.slice (some ⟨W.heap.size,0,none⟩) 1 1)).run Tryz.prog (W.alloc (.cells #[.int .u8 ((r:Int)+128)] 5))=.ok (.string (tx [x])) (W.alloc (.cells #[.int .u8 ((r:Int)+128)] 5)):=by
  intro W
  exact zAn Tryz.underlying25 Tryz.underlying5 Tryz.underlying9 (HONE.out W)
 have hcvB:∀ W:World,(convert 25 9 (.slice (some ⟨W.heap.size,0,none⟩) 1 1)).run Tryz.prog (W.alloc (.cells #[.int .u8 ((r:Int)+128)] 5)).drew=.ok (.string (tx [x])) (W.alloc (.cells #[.int .u8 ((r:Int)+128)] 5)).drew:=by
  intro W
  exact zAn Tryz.underlying25 Tryz.underlying5 Tryz.underlying9 (HONE.out W).drew
 have hadd:∀ W:World,(Op.stringOp .add (tx [x]) (tx (vb q))).run Tryz.prog W=.ok (.string (tx (x :: vb q))) W:=fun W =>zAd W [x] (vb q) (by simp;omega)
 rw [← hx]
 have HBX:=yh hbx
 have HX:=yh hx
 have HR:=yh hr
 have HQ:=yh hq
 clear hbx hx hr hq
 go_enter Tryz.func37,Tryz.ntmps37
 go_wp2
 go_region_with (go_at_call 37;refine (IH.out _).mono ?_;rintro e w' ⟨rfl,hb⟩;first | (have hcvC:(convert 25 9 (.slice (some ⟨w.heap.size,0,none⟩) 1 1)).run Tryz.prog w'=.ok (.string (tx [x])) w':=zAn Tryz.underlying25 Tryz.underlying5 Tryz.underlying9 ((HONE.out w).drew.below (hb.mono (by simp)))) | skip)
 all_goals
  go_wp2
  go_ret
  first
   | exact ⟨rfl,(((Below.refl _ w).alloc (Nat.le_refl _) _).drew).trans (hb.mono (by simp))⟩
   | exact ⟨rfl,((Below.refl _ w).drew.trans hb).alloc (by have:=hb.size;simpa using this) _⟩
theorem zGm:∀ (k n:Nat),n<128 ^ (k+1)→n<top→∀ w:World,
  Calls Tryz.prog 37 #[.int .u64 (n:Int)] w fun e w' =>e=.returned (.string (tx (vb n)))∧Below w.heap.size w w'
 | 0,n,h,_,w =>zHh n (by simpa using h) w
 | k+1,n,h,ht,w =>by
  by_cases h1:n<128
  ·exact zHh n h1 w
  ·have hq:n / 128<128 ^ (k+1):=by
    rw [Nat.pow_succ] at h
    exact Nat.div_lt_of_lt_mul (by rw [Nat.mul_comm];exact h)
   have hqt:n / 128<top:=by omega
   exact zMD n h1 (zAZ _ hqt) (by rw [IntKind.wrap_u64];unfold top at hqt;omega) (zGm k (n / 128) hq hqt) w
theorem zAW (n:Nat) (h:n<top) (w:World):Calls Tryz.prog 37 #[.int .u64 (n:Int)] w fun e w' =>e=.returned (.string (tx (vb n)))∧Below w.heap.size w w' :=
 zGm 9 n (by unfold top at h;have:(128:Nat) ^ (9+1)=1180591620717411303424:=(by decide);omega) h w
end Go.Proofs.YtoclafdidjpndaaGreatDoor
