/- Texts of one proof. -/
import Derived.ArgAppend
import Derived.Lib.SlBytesConst
import Derived.Test.YtekchkfjgofnkaaGreatDoorMy23
set_option maxRecDepth 100000
set_option maxHeartbeats 8000000
namespace Go.Proofs.YtekchkfjgofnkaaGreatDoor
open Go.RowKit Go.Shelf
theorem zJj {w:World} {base base':Nat} {e:TypeId} {size:Nat} {v:Value} {n:Nat} {xs:List Value} (h:w.ownsRow base e size v n xs) (hb:base'≤base):w.ownsRow base' e size v n xs :=
 ⟨h.1,h.2.imp id fun ⟨g,cap,cur,hv,hg,r⟩ =>⟨g,cap,cur,hv,Nat.le_trans hb hg,r⟩⟩
theorem zMD (W:World) (e:TypeId) (vs:List Value):zAD (W.alloc (.cells vs.toArray e)) (W.heap.size+1) 1 (some ⟨W.heap.size,0,none⟩) vs.length vs :=
 ⟨by simp,fun _ =>⟨_,rfl,by simp,fun j u hu =>by
  have h0:Addr.add ⟨W.heap.size,0,none⟩ j=⟨W.heap.size,j,none⟩:=by
   unfold Addr.add
   split
   ·rename_i h;rw [h]
   ·simp
  rw [h0]
  simp only [World.cell?,World.alloc,Array.getElem?_push_size]
  simpa using hu⟩⟩
def hb (v:Nat):List UInt8:=[84,80,72,UInt8.ofNat v]
def hd (v:Nat):List UInt8:=hb v++lb (crc (hb v))
theorem zSZ {v:Nat} (h:v<256):(bv (UInt8.ofNat v))=.int .u8 (v:Int):=zJH h
theorem zPF (v:Int) (h:ver v=false) (w:World):Calls Tryz.prog 93 #[.int .i64 v] w fun e w' =>e=.returned (.tuple #[.slice none 0 0,.int .i64 11])∧w=w':=by
 go_enter Tryz.func93,Tryz.ntmps93
 go_wp2_with (go_at_call 100;refine (zGJ _ _).mono ?_;rintro e w1 ⟨rfl,rfl⟩)
 go_ret2
 exact ⟨rfl,rfl⟩
theorem zRB (v:Nat) (h:1≤v∧v≤3) (w:World) (hl:Laid w):Calls Tryz.prog 93 #[.int .i64 (v:Int)] w fun e w' =>∃ u,e=.returned (.tuple #[u,.int .i64 0])∧w'.ownsRow w.heap.size 5 1 u 8 ((hd v).map bv)∧Below w.heap.size w w':=by
 obtain ⟨i0,hi,hz0,hz1,hz2⟩:=info_parts zCX
 have kc:=fun (w:World) (C:Array Value) (n c:Nat) =>Lib.run_convert_bytes_const (P:=Tryz.prog) w 59 5 C n c Tryz.underlying59 Tryz.underlying5
 have hv:ver (v:Int)=true:=zID (by omega)
 have hw1:IntKind.u8.wrap (v:Int)=(v:Int):=by rw [IntKind.wrap_u8'];omega
 have hmap:(hb v).map bv=[Value.int .u8 84,.int .u8 80,.int .u8 72]++[.int .u8 (v:Int)]:=by
  rw [← zSZ (by omega:v<256)];rfl
 have HMAP:=yh hmap
 have HL:=yh hl
 have HV:=yh h
 clear hmap hl h
 have HTPH:Hid (∀ W:World,∀ j u,[Value.int .u8 84,.int .u8 80,.int .u8 72][j]? = some u→((W.alloc (.cells #[Value.int .u8 84,.int .u8 80,.int .u8 72] 5 (3,4))).alloc (.cells #[.int .u8 (v:Int)] 5)).cell? ((⟨W.heap.size,0,none⟩:Addr).add j)=some u):=by
  intro W j u hj
  have h1:=(zNn W 5 [84,80,72] (3,4)).alloc (by simp) (.cells #[.int .u8 (v:Int)] 5)
  have e:([84,80,72]:List UInt8).map bv=[Value.int .u8 84,.int .u8 80,.int .u8 72]:=by kernel_rfl
  rw [e] at h1
  obtain ⟨ad,e2,_,h3⟩:=h1.2 (by decide)
  cases e2
  exact h3 j u hj
 go_enter Tryz.func93,Tryz.ntmps93
 go_wp2_with (first
  | (go_at_call 100;refine (zGJ _ _).mono ?_;rintro e w1 ⟨rfl,rfl⟩)
  | (at_builtin;refine wpList_append_grows _ rfl (.tmp 8) (.tmp 11) 59 rfl 5 i0 (.int .u8 0) 1 1 Tryz.underlying59 hi hz0 hz1 hz2 rfl (by decide) (some ⟨w.heap.size,0,none⟩) 3 3 [.int .u8 84,.int .u8 80,.int .u8 72] rfl (fun e =>by cases e) rfl (fun b e =>by cases e;exact HTPH.out w) ⟨w.heap.size+1,0,none⟩ 1 1 [.int .u8 (v:Int)] rfl rfl ?news (by simp [Value.oneCell']) (by omega) (by unfold maxLen;omega) (by omega) ?_)
  | fail)
 case news =>
  have h:=cell_one_new (w.alloc (.cells #[Value.int .u8 84,.int .u8 80,.int .u8 72] 5 (3,4))) (.int .u8 (v:Int)) 5
  rw [World.size_alloc] at h
  exact h
 intro v' w' ho hg
 have hb1:Below w.heap.size w w':=(((Below.refl _ w).alloc (Nat.le_refl _) _).alloc (by simp) _).grown hg (by simp;omega) (by simp)
 have hls:Laid w':=HL.out.below hb1
 have ho2:w'.ownsRow w.heap.size 5 1 v' 4 ((hb v).map bv):=by rw [HMAP.out];exact zJj ho (by omega)
 have HO:=yh (zKK w.heap.size v' 4 (hb v) (by omega) w' hb1.size hls ho2)
 clear ho hg hls ho2
 go_wp2_with (go_at_call 112;refine HO.out.mono ?_;rintro e w2 ⟨v2,rfl,ho2,hb2⟩;obtain ⟨A2,c2,rfl,hc2,-⟩:=zBF ho2)
 go_ret2
 exact ⟨_,rfl,ho2,hb1.trans hb2⟩
def vg (bs:List UInt8):Nat×Nat :=
 if bs.length<8 then (0,2)
 else if bs.take 3≠[84,80,72] then (0,3)
 else if lb (crc (bs.take 4))≠(bs.drop 4).take 4 then (0,4)
 else if ver ((bs.drop 3).headD 0).toNat=false then (0,11)
 else (((bs.drop 3).headD 0).toNat,0)
theorem zHZ {t:List UInt8} (ht:t.length=4) {s:W32}:le4 t=s ↔ lb s=t:=by
 constructor
 ·rintro rfl;exact zSu ht
 ·rintro rfl;exact zSM s
theorem zKm (A:Option Addr) (n c:Nat) (bs:List UInt8) (hc:n≤c) (hn:n≤1073741824) (w:World) (hl:Laid w) (hr:zAD w w.heap.size 1 A n (bs.map bv)) :
  Calls Tryz.prog 77 #[.slice A n c] w fun e w' =>e=.returned (.tuple #[.int .i64 ((vg bs).1:Int),.int .i64 ((vg bs).2:Int)])∧Below w.heap.size w w':=by
 have hbn:bs.length=n:=by have:=hr.1;simpa using this
 have HB:=yh hbn
 have HL:=yh hl
 clear hl
 by_cases h8:n<8
 ·rw [vg,if_pos (by omega)]
  clear hbn
  go_enter Tryz.func77,Tryz.ntmps77
  go_wp2
  go_ret2
  exact ⟨rfl,Below.refl _ _⟩
 obtain ⟨ad,rfl,hadb,hcells⟩:=hr.2 (by omega)
 have ht3:=hr.take (k:=3) (by omega)
 rw [← List.map_take] at ht3
 have hcv:∀ W:World,Hid (W=w)→(convert 59 9 (.slice (some ad) 3 c)).run Tryz.prog W=.ok (.string (tx (bs.take 3))) W:=fun W hW =>by
  cases hW
  exact zBV Tryz.underlying59 Tryz.underlying5 Tryz.underlying9 ht3
 have hcv0:=hcv w rfl
 by_cases h3:bs.take 3=[84,80,72]
 ·obtain ⟨s,hs⟩:∃ s,s=tx (bs.take 3):=⟨_,rfl⟩
  have hs3:(s.toList == [84,80,72])=true:=by rw [hs,zBd,h3];rfl
  rw [← hs] at hcv0
  clear hs hcv ht3
  have hrd:=zLI (some ad) n c 4 bs hn hc (by omega) w hr
  have hr4:=hr.take (k:=4) (by omega)
  rw [← List.map_take] at hr4
  have hsm:=zIB w (.slice (some ad) 4 c) (bs.take 4) HL.out ⟨some ad,4,c,rfl,by omega,by omega,hr4⟩
  have hlen4:((bs.drop 4).take 4).length=4:=by rw [List.length_take,List.length_drop];omega
  obtain ⟨x,hx⟩:∃ x,bs[3]? = some x:=⟨_,List.getElem?_eq_getElem (by omega)⟩
  have hhd:(bs.drop 3).headD 0=x:=by
   have:(bs.drop 3)[0]? = some x:=by rw [List.getElem?_drop];exact hx
   rw [List.headD_eq_head?_getD,List.head?_eq_getElem?,this];rfl
  have hcell:w.cell? (ad.add 3)=some (.int .u8 (x.toNat:Int)):=hcells 3 _ (by rw [List.getElem?_map,hx];rfl)
  have hcell2:w.cell? { block:=ad.block,off:=ad.off+3 }=some (.int .u8 (x.toNat:Int)):=by simpa [Addr.add] using hcell
  have hx256:x.toNat<256:=x.toNat_lt
  rw [vg,if_neg (by omega),if_neg (by simpa using h3),hhd]
  obtain ⟨v,hv⟩:∃ v,v=x.toNat:=⟨_,rfl⟩
  rw [← hv] at hcell2 hx256 ⊢
  clear hcell
  have HRD:=yh hrd
  have HSM:=yh hsm
  have hwr:IntKind.i64.wrap (v:Int)=(v:Int):=by rw [IntKind.wrap_i64];omega
  by_cases hc4:le4 ((bs.drop 4).take 4)=crc (bs.take 4)
  ·have e4:lb (crc (bs.take 4))=(bs.drop 4).take 4:=(zHZ hlen4).1 hc4
   rw [if_neg (by simpa using e4)]
   rw [hc4] at HRD
   obtain ⟨q,hq⟩:∃ q,q=crc (bs.take 4):=⟨_,rfl⟩
   rw [← hq] at HRD HSM
   obtain ⟨a,ha⟩:∃ a,a=q.toNat:=⟨_,rfl⟩
   have hwq:wv q=.int .u32 (a:Int):=by rw [wv,ha]
   rw [hwq] at HSM HRD
   clear hrd hsm hcells hr4 hlen4 hx hhd hc4 e4 hq hv h3 hbn ha hwq
   by_cases hvv:ver (v:Int)=true
   ·rw [if_neg (by rw [hvv];simp)]
    have HI:=yh (fun W =>zGJ (v:Int) W)
    rw [hvv] at HI
    clear hvv
    go_enter Tryz.func77,Tryz.ntmps77
    go_wp2_with (first
     | (go_at_call 98;refine HRD.out.mono ?_;rintro e w1 ⟨rfl,rfl⟩)
     | (go_at_call 99;refine HSM.out.mono ?_;rintro e w1 ⟨rfl,rfl⟩)
     | (go_at_call 100;refine (HI.out _).mono ?_;rintro e w1 ⟨rfl,rfl⟩))
    go_ret2
    exact ⟨rfl,(Below.refl _ _).alloc (Nat.le_refl _) _⟩
   ·have hvf:ver (v:Int)=false:=by simpa using hvv
    rw [if_pos hvf]
    have HI:=yh (fun W =>zGJ (v:Int) W)
    rw [hvf] at HI
    clear hvv hvf
    go_enter Tryz.func77,Tryz.ntmps77
    go_wp2_with (first
     | (go_at_call 98;refine HRD.out.mono ?_;rintro e w1 ⟨rfl,rfl⟩)
     | (go_at_call 99;refine HSM.out.mono ?_;rintro e w1 ⟨rfl,rfl⟩)
     | (go_at_call 100;refine (HI.out _).mono ?_;rintro e w1 ⟨rfl,rfl⟩))
    go_ret2
    exact ⟨rfl,(Below.refl _ _).alloc (Nat.le_refl _) _⟩
  ·rw [if_pos (fun e4 =>hc4 ((zHZ hlen4).2 e4))]
   obtain ⟨q,hq⟩:∃ q,q=crc (bs.take 4):=⟨_,rfl⟩
   obtain ⟨q2,hq2⟩:∃ q2,q2=le4 ((bs.drop 4).take 4):=⟨_,rfl⟩
   rw [← hq] at HSM hc4
   rw [← hq2] at HRD hc4
   have hne:((q2.toNat:Int) == (q.toNat:Int))=false:=by
    rw [beq_eq_false_iff_ne];intro e;exact hc4 (BitVec.eq_of_toNat_eq (by omega))
   obtain ⟨a,ha⟩:∃ a,a=q.toNat:=⟨_,rfl⟩
   obtain ⟨b,hb⟩:∃ b,b=q2.toNat:=⟨_,rfl⟩
   rw [← ha,← hb] at hne
   have hwq:wv q=.int .u32 (a:Int):=by rw [wv,ha]
   have hwq2:wv q2=.int .u32 (b:Int):=by rw [wv,hb]
   rw [hwq] at HSM
   rw [hwq2] at HRD
   have hne2:¬ ((b:Int)=(a:Int)):=by simpa using hne
   have hne3:¬ (b=a):=by omega
   clear hrd hsm hcells hr4 hlen4 hx hhd hc4 hq hq2 ha hb hwq hwq2 hv h3 hbn hne
   go_enter Tryz.func77,Tryz.ntmps77
   go_wp2_with (first
    | (go_at_call 98;refine HRD.out.mono ?_;rintro e w1 ⟨rfl,rfl⟩)
    | (go_at_call 99;refine HSM.out.mono ?_;rintro e w1 ⟨rfl,rfl⟩))
   go_ret2
   exact ⟨rfl,(Below.refl _ _).alloc (Nat.le_refl _) _⟩
 ·obtain ⟨s,hs⟩:∃ s,s=tx (bs.take 3):=⟨_,rfl⟩
  have hne:(s.toList == [84,80,72])=false:=by rw [hs,zBd];simpa using h3
  rw [vg,if_neg (by omega),if_pos h3]
  rw [← hs] at hcv0
  clear hs hcv ht3 hcells h3 hbn
  go_enter Tryz.func77,Tryz.ntmps77
  go_wp2
  go_ret2
  exact ⟨rfl,Below.refl _ _⟩
theorem zJQ (A L:Option Addr) (n c m d:Nat) (bs p:List UInt8) (hp:pay p) (hbig:n+4096≤1073741824) (hc:n≤c) (hA:A=none→c=0) (w:World) (hl:Laid w)
  (hr:zAD w w.heap.size 1 A n (bs.map bv)) (hq:zAD w w.heap.size 1 L m (p.map bv)) :
  Calls Tryz.prog 110 #[.slice A n c,.slice L m d] w fun e w' =>∃ v,e=.returned (.tuple #[v,.int .i64 0])∧w'.ownsRow w.heap.size 5 1 v (bs++fr p).length ((bs++fr p).map bv)∧Below w.heap.size w w':=by
 have hml:p.length=m:=by have:=hq.1;simpa using this
 have hnl:bs.length=n:=by have:=hr.1;simpa using this
 obtain ⟨hp1,hp2⟩:=hp
 have h0:((m:Int) == 0)=false:=by rw [beq_eq_false_iff_ne];omega
 have h1:decide (2048<(m:Int))=false:=by rw [decide_eq_false_iff_not];omega
 have hbl:(blob p).length≤2048+10:=by rw [zDV];have:=zBQ p.length (by unfold top;omega);omega
 have hcv:Hid ((convert 59 9 (.slice L m d)).run Tryz.prog w=.ok (.string (tx p)) w):=zBV Tryz.underlying59 Tryz.underlying5 Tryz.underlying9 hq
 have hcv0:=hcv.out
 have HPUT:=yh (zJG p (by omega) w)
 have HBL:=yh hbl
 have HL:=yh hl
 have HR:=yh hr
 have HNL:=yh hnl
 obtain ⟨s,hs⟩:∃ s,s=tx p:=⟨_,rfl⟩
 rw [← hs] at hcv0 HPUT
 obtain ⟨q,hqq⟩:∃ q,q=blob p:=⟨_,rfl⟩
 have hfr:fr p=q++lb (crc q):=by rw [fr,hqq]
 rw [← hqq] at HPUT HBL
 rw [hfr]
 clear hq hcv hs hqq hfr hp1 hp2 hml hbl hl hr hnl
 have HC:Hid (∀ (w1 w2:World) (v:Value),Below w.heap.size w w1→Below w.heap.size w1 w2→w2.ownsRow w.heap.size 5 1 v (q.length+4) ((q++lb (crc q)).map bv) →
   Calls Tryz.prog 134 #[.slice (some ⟨w2.heap.size,0,none⟩) 2 2] (w2.alloc (.cells #[.slice A n c,v] 59)) fun e w' =>∃ u,e=.returned u∧w'.ownsRow w.heap.size 5 1 u (bs++(q++lb (crc q))).length ((bs++(q++lb (crc q))).map bv)∧Below w.heap.size w w'):=by
  intro w1 w2 v hb1 hb2 ho
  have hb:Below w.heap.size w w2:=hb1.trans hb2
  obtain ⟨A2,c2,rfl,hc2,hr2⟩:=zBF ho
  have hA2:A2=none→c2=0:=fun e =>absurd (by rw [e] at hr2;exact hr2.2 (by omega)) (by simp)
  have hR:zAD (w2.alloc (.cells #[.slice A n c,.slice A2 (q.length+4) c2] 59)) (w2.heap.size+1) 1 (some ⟨w2.heap.size,0,none⟩) 2 [.slice A n c,.slice A2 (q.length+4) c2]:=zMD w2 _ [.slice A n c,.slice A2 (q.length+4) c2]
  have hfl:[bs,q++lb (crc q)].flatten=bs++(q++lb (crc q)):=by simp
  have hlen4:(q++lb (crc q)).length=q.length+4:=by simp [zEM]
  have hq4:q.length+4≤1073741824:=by have:=HBL.out;omega
  have h:=zLf (some ⟨w2.heap.size,0,none⟩) 2 2 [.slice A n c,.slice A2 (q.length+4) c2] [bs,q++lb (crc q)] (by omega)
   (by rw [hfl,List.length_append,hlen4,HNL.out];have:=HBL.out;omega) _ (w2.heap.size+1) (by simp) hR ⟨rfl,fun i v hi =>by
    match i,hi with
    | 0,hi =>cases hi;exact ⟨bs,rfl,A,n,c,rfl,hc,by omega,hA,((HR.out.below hb).alloc hb.size _).more (by have:=hb.size;omega)⟩
    | 1,hi =>cases hi;exact ⟨_,rfl,A2,q.length+4,c2,rfl,hc2,hq4,hA2,(hr2.alloc (Nat.le_refl _) _).more (by omega)⟩
    | k+2,hi =>simp at hi⟩
  rw [hfl] at h
  refine h.mono ?_
  rintro e w' ⟨u,rfl,hu,hbb⟩
  rw [World.size_alloc] at hu hbb
  exact ⟨u,rfl,zJj hu (by have:=hb.size;omega),(hb.alloc hb.size _).trans (hbb.mono (by have:=hb.size;omega))⟩
 have HB0:=HBL.out
 go_enter Tryz.func110,Tryz.ntmps110
 go_wp2_with (first
  | (go_at_call 135;refine HPUT.out.mono ?_;rintro e w1 ⟨v1,rfl,ho1,hb1⟩;have HW:=yh (zKK w.heap.size v1 q.length q (by omega) w1 hb1.size (HL.out.below hb1) ho1);clear ho1)
  | (go_at_call 112;refine HW.out.mono ?_;rintro e w2 ⟨v2,rfl,ho2,hb2⟩;obtain ⟨A2,c2,rfl,hc2,-⟩:=zBF ho2)
  | (go_at_call 134;refine (HC.out w1 w2 _ hb1 hb2 ho2).mono ?_;rintro e w3 ⟨v3,rfl,ho3,hb3⟩))
 go_ret2
 exact ⟨v3,rfl,ho3,hb3⟩
open Go.RowKit
theorem vb10 (n:Nat) (h:n<top):(vb n).length≤10:=zBQ n h
theorem zLE (ver:Int) (tl:List (List UInt8)) (s:List UInt8) (hs:s.length≤64) (ht:tl.length≤1073741824):(nmB ver tl s).length≤74:=by
 unfold nmB
 split
 ·unfold blob
  rw [List.length_append]
  have:=vb10 s.length (by unfold top;omega)
  omega
 ·have h1:=zBS (s:=s) ht
  have:=vb10 (tnum tl s) (by unfold top;omega)
  omega
theorem zMl (ver:Int) (tl:List (List UInt8)) (d:Dp) (hs:d.name.length≤64) (ht:tl.length≤1073741824) (hh:0≤d.hash∧d.hash<18446744073709551616):(fDep ver tl d).length≤84:=by
 unfold fDep depB
 rw [List.length_append]
 have h1:=vb10 d.hash.toNat (zAc hh).2
 split
 ·have:=zLE ver tl d.name hs ht
  omega
 ·have h2:=zBS (s:=d.name) ht
  have:=vb10 (2 * tnum tl d.name+if d.order then 1 else 0) (by unfold top;split <;> omega)
  omega
theorem zHE (ver:Int) (tl:List (List UInt8)) (ht:tl.length≤1073741824):∀ l:List Dp,(∀ d ∈ l,d.name.length≤64∧(0≤d.hash∧d.hash<18446744073709551616))→(l.flatMap (fDep ver tl)).length≤84 * l.length
 | [],_ =>by simp
 | d :: l,h =>by
  rw [List.flatMap_cons,List.length_append,List.length_cons]
  have h1:=zMl ver tl d (h d (by simp)).1 ht (h d (by simp)).2
  have h2:=zHE ver tl ht l (fun x hx =>h x (by simp [hx]))
  omega
theorem zPb {ver:Int} {tl:List (List UInt8)} {r:Rc} {l:List Dp} (hm:MayP ver r l) (hnu:Nums r l) (ht:tl.length≤1073741824):1≤(payB ver tl r l).length∧(payB ver tl r l).length≤2048:=by
 obtain ⟨n1,n2,n3,n4⟩:=zBZ hm
 have h1:=zLE ver tl r.target n1 ht
 unfold payB
 split
 ·rw [List.length_cons];omega
 ·rw [List.length_cons]
  simp only [List.length_append]
  have h2:=vb10 r.rule.toNat (zAc hnu.1).2
  have h3:=vb10 r.out.toNat (zAc hnu.2.1).2
  have h4:=vb10 r.time.toNat (zAc hnu.2.2.1).2
  have h5:(zBu ver tl l).length≤10+84 * 16:=by
   unfold zBu
   rw [List.length_append]
   have a1:=vb10 l.length (by unfold top;omega)
   have a2:=zHE ver tl ht l (fun d hd =>⟨n4 d hd,hnu.2.2.2 d hd⟩)
   omega
  have h6:(if ver<2 then [] else vb r.time.toNat).length≤10:=by
   split
   ·simp
   ·exact h4
  have h7:(if ver<3 then [] else fTag tl r).length≤10:=by
   split
   ·simp
   ·unfold fTag
    have a1:=zBS (s:=r.tag) ht
    split
    ·exact vb10 0 (by unfold top;omega)
    ·exact vb10 _ (by unfold top;omega)
  omega
theorem zFO {ver:Int} {tl:List (List UInt8)} {r:Rc} {l:List Dp} (hm:MayP ver r l) (hnu:Nums r l) (ht:tl.length≤1000000):∀ p ∈ payL ver tl r l,pay p:=by
 intro p hp
 unfold payL at hp
 rcases List.mem_append.1 hp with h | h
 ·have h1:=zFA hm p h
  refine ⟨by cases p with
   | nil =>exact absurd rfl h1.2.1
   | cons a q =>simp,?_⟩
  have h2:∀ (ns tl:List (List UInt8)),(∀ s ∈ ns,s.length≤64)→∀ t ∈ zBA tl ns,t.length≤65:=by
   intro ns
   induction ns with
   | nil =>intro tl _ t ht;cases ht
   | cons s ns ih =>
    intro tl hn t ht
    unfold zBA at ht
    split at ht
    ·exact ih tl (fun x hx =>hn x (by simp [hx])) t ht
    ·rcases List.mem_cons.1 ht with rfl | ht
     ·have:=hn s (by simp)
      simp only [List.length_cons];omega
     ·exact ih _ (fun x hx =>hn x (by simp [hx])) t ht
  unfold freT at h
  split at h
  ·cases h
  ·have:=h2 _ _ (zDA hm).1 p h
   omega
 ·obtain rfl:=List.mem_singleton.1 h
  have h1:=zCs (tl:=tl) hm
  exact zPb hm hnu (by omega)
theorem zKx {p:List UInt8} (h:pay p):(fr p).length≤2062:=by
 rw [zHI]
 unfold blob
 rw [List.length_append]
 have:=vb10 p.length (by unfold top;have:=h.2;omega)
 have:=h.2
 omega
theorem zEC:∀ ps:List (List UInt8),(∀ p ∈ ps,pay p)→(frs ps).length≤2062 * ps.length
 | [],_ =>by simp [frs]
 | p :: ps,h =>by
  unfold frs
  rw [List.length_append,List.length_cons]
  have h1:=zKx (h p (by simp))
  have h2:=zEC ps (fun q hq =>h q (by simp [hq]))
  omega
def zAe (ver:Int) (xs:List Rw):Prop:=∀ x ∈ xs,MayP ver x.r x.l∧Nums x.r x.l
theorem zAe.take {ver:Int} {xs:List Rw} (h:zAe ver xs) (i:Nat):zAe ver (xs.take i):=fun x hx =>h x (List.mem_of_mem_take hx)
theorem zAe.snoc {ver:Int} {xs:List Rw} {i:Nat} {x:Rw} (h:zAe ver (xs.take i)) (hx:xs[i]? = some x) (hm:MayP ver x.r x.l) (hn:Nums x.r x.l):zAe ver (xs.take (i+1)):=by
 intro y hy
 rw [List.take_add_one,hx] at hy
 rcases List.mem_append.1 hy with h1 | h1
 ·exact h y h1
 ·obtain rfl:y=x:=by simpa using h1
  exact ⟨hm,hn⟩
theorem zFK {ver:Int}:∀ (xs:List Rw) (tl:List (List UInt8)),zAe ver xs→tl.length+18 * xs.length≤1000000→∀ p ∈ zAH ver tl xs,pay p
 | [],_,_,_,p,hp =>by cases hp
 | x :: xs,tl,h,hl,p,hp =>by
  have hx:=h x (by simp)
  rw [List.length_cons] at hl
  have hp2:p ∈ payL ver tl x.r x.l++zAH ver (tabT ver tl x.r x.l) xs:=hp
  rcases List.mem_append.1 hp2 with h1 | h1
  ·exact zFO hx.1 hx.2 (by omega) p h1
  ·have h2:=zCs (tl:=tl) hx.1
   exact zFK xs _ (fun y hy =>h y (by simp [hy])) (by omega) p h1
theorem zAe.may {ver:Int} {xs:List Rw} (h:zAe ver xs):∀ x ∈ xs,MayP ver x.r x.l:=fun x hx =>(h x hx).1
def zAS (v:Nat) (ver:Int) (xs:List Rw):List UInt8:=hd v++frs (zAH ver [] xs)
theorem zCx {ver:Int} {xs:List Rw} (h:zAe ver xs) (hl:xs.length≤1000):(zAH ver [] xs).length≤19000∧(zAV ver [] xs).length≤18000∧(frs (zAH ver [] xs)).length≤39178000∧∀ p ∈ zAH ver [] xs,pay p:=by
 have h1:=zFJ (ver:=ver) xs [] h.may
 have h2:=zFR (ver:=ver) xs [] h.may
 have h3:=zFK xs [] h (by simp;omega)
 have h4:=zEC _ h3
 simp only [List.length_nil] at h2
 exact ⟨by omega,by omega,by omega,h3⟩
theorem zFf {ver:Int} {xs:List Rw} {i:Nat} {x:Rw} (hx:xs[i]? = some x):frs (zAH ver [] (xs.take (i+1)))=frs (zAH ver [] (xs.take i))++frs (payL ver (zAV ver [] (xs.take i)) x.r x.l)∧zAV ver [] (xs.take (i+1))=tabT ver (zAV ver [] (xs.take i)) x.r x.l:=by
 rw [List.take_add_one,hx]
 show frs (zAH ver [] (xs.take i++[x]))=_∧zAV ver [] (xs.take i++[x])=_
 rw [zDg,zDH,zEi]
 exact ⟨rfl,rfl⟩
theorem zJV:(Tryz.prog.info? 3).map (fun i =>(i.zero,i.size,i.bytes))=some (some (.int .i64 0),1,8):=by kernel_rfl
theorem zDw {w w':World} {b1 b2 s1 s2 n1 n2:Nat} {e1 e2:TypeId} {v1 v2:Value} {xs1 xs2:List Value} (h1:w.ownsRow b1 e1 s1 v1 n1 xs1) (h2:w.ownsRow b2 e2 s2 v2 n2 xs2) (he:e1≠e2)
  (hg:w.grownBy w' v1.ownBlock):w'.ownsRow b2 e2 s2 v2 n2 xs2:=by
 refine zBL h2 (fun g hg1 hg2 =>?_) hg
 rcases h1.2 with ⟨rfl,_⟩ | ⟨g1,c1,k1,rfl,_,hh1,_⟩
 ·simp [Value.ownBlock] at hg1
 rcases h2.2 with ⟨rfl,_⟩ | ⟨g2,c2,k2,rfl,_,hh2,_⟩
 ·simp [Value.ownBlock] at hg2
 simp only [Value.ownBlock,Option.some.injEq] at hg1 hg2
 subst hg1
 subst hg2
 rw [hh1] at hh2
 injection hh2 with hh2
 injection hh2 with _ h
 exact he h
theorem zEa {w:World} {base n size:Nat} {e:TypeId} {v:Value} {xs:List Value} (h:w.ownsRow base e size v n xs) (o:Obj):(w.alloc o).ownsRow base e size v n xs :=
 zAK h ((Below.refl _ w).alloc (Nat.le_refl _) o)
def tp (r:List UInt8×Nat):Value:=sv r.1
def tn (r:List UInt8×Nat):Value:=.int .i64 (r.2:Int)
theorem zQu {k at_ nx:Nat} {p bs:List UInt8} (h:fg at_ bs=(p,nx,0)):frun (k+1) at_ bs=(p,nx) :: frun k nx bs:=by
 rw [frun,h];rfl
theorem zBk (v:Nat):(hd v).length=8:=by unfold hd;rw [List.length_append,zEM];rfl
def inv (i:Nat):Value:=.int .i64 (i:Int)
def zDF (F:List (List UInt8×Nat)) (nx:Nat):Nat:=((F[nx - 1]?).map (·.2)).getD 0
def zDf (F:List (List UInt8×Nat)) (xs:List Rdd):Nat:=xs.foldl (fun _ x =>zDF F x.2.2) 8
theorem zHL (F:List (List UInt8×Nat)) (xs:List Rdd) (x:Rdd):zDf F (xs++[x])=zDF F x.2.2:=by unfold zDf;rw [List.foldl_append];rfl
def sayR (x:Rdd):Rc×List Dp:=(x.1,x.2.1)
def endV (F:List (List UInt8×Nat)) (x:Rdd):Value:=inv (zDF F x.2.2)
structure zCD (F:List (List UInt8×Nat)) (xs:List Rdd) (base:Nat) (va ve:Value) (zs:List Rw) (w:World):Prop where
 recs:w.ownsRow base 41 7 va xs.length (rws zs)
 say:zs.map Rw.say=xs.map sayR
 deps:∀ z ∈ zs,w.ownsRow base 95 3 (.slice z.A z.n z.c) z.n (dps z.l)
 ends:w.ownsRow base 3 1 ve xs.length (xs.map (endV F))
theorem zCD.below {F:List (List UInt8×Nat)} {xs:List Rdd} {base:Nat} {va ve:Value} {zs:List Rw} {w w':World} (h:zCD F xs base va ve zs w) (hb:Below w.heap.size w w'):zCD F xs base va ve zs w' :=
 ⟨zAK h.recs hb,h.say,fun z hz =>zAK (h.deps z hz) hb,zAK h.ends hb⟩
theorem zCD.other {F:List (List UInt8×Nat)} {xs:List Rdd} {base g:Nat} {va ve:Value} {zs:List Rw} {w w':World} {cs:Array Value} {t:TypeId} {f:Nat×Nat} (h:zCD F xs base va ve zs w) (hg:w.grownBy w' (some g)) (hh:w.heap[g]? = some (.cells cs t f)) (h1:41≠t) (h2:95≠t) (h3:3≠t):zCD F xs base va ve zs w' :=
 ⟨zCI h.recs hg (zAa h.recs hh h1),h.say,fun z hz =>zCI (h.deps z hz) hg (zAa (h.deps z hz) hh h2),zCI h.ends hg (zAa h.ends hh h3)⟩
theorem zEZ {W:World} {b g:Nat} (h:g≠b) (i:Nat) (u0:Value):(W.setCell ⟨b,i,none⟩ u0).heap[g]? = W.heap[g]?:=by
 simp [World.setCell,Array.getElem?_modify,Ne.symm h]
theorem zCD.less {F:List (List UInt8×Nat)} {xs:List Rdd} {base base':Nat} {va ve:Value} {zs:List Rw} {w:World} (h:zCD F xs base va ve zs w) (hb:base'≤base):zCD F xs base' va ve zs w :=
 ⟨zAT h.recs hb,h.say,fun z hz =>zAT (h.deps z hz) hb,zAT h.ends hb⟩
theorem zBg {W:World} {b:Nat} (u0 u1 u2 u3:Value):W.grownBy ((((W.setCell ⟨b,0,none⟩ u0).setCell ⟨b,1,none⟩ u1).setCell ⟨b,2,none⟩ u2).setCell ⟨b,3,none⟩ u3) (some b) :=
 ⟨rfl,rfl,rfl,by simp,fun k _ hk =>by
  have h:k≠b:=fun e =>hk (by rw [e])
  simp [World.setCell,Array.getElem?_modify,Ne.symm h]⟩
theorem zSs (v:Nat) (h:1≤v∧v≤3) (bs:List UInt8):vg (hd v++bs)=(v,0):=by
 have h1:(hd v++bs).take 3=[84,80,72]:=rfl
 have h2:(hd v++bs).take 4=hb v:=rfl
 have h3:((hd v++bs).drop 4).take 4=lb (crc (hb v)):=rfl
 have h4:((hd v++bs).drop 3).headD 0=UInt8.ofNat v:=rfl
 have h5:(UInt8.ofNat v).toNat=v:=by simp;omega
 have h6:(hd v++bs).length=8+bs.length:=by simp [hd,hb,zEM];omega
 rw [vg,if_neg (by omega),if_neg (by simpa using h1),h2,h3,if_neg (by simp),h4,h5,if_neg (by rw [zID (by omega)];simp)]
theorem zLN:∀ (ps:List (List UInt8)) (a j:Nat) (p:List UInt8),ps[j]? = some p→(told a ps)[j]? = some (p,a+(frs (ps.take (j+1))).length)
 | [],_,_,_,h =>by simp at h
 | q :: ps,a,0,p,h =>by
  obtain rfl:q=p:=by simpa using h
  unfold told
  simp [frs]
 | q :: ps,a,j+1,p,h =>by
  unfold told
  have h1:=zLN ps (a+(fr q).length) j p (by simpa using h)
  have h2:frs (q :: ps.take (j+1))=fr q++frs (ps.take (j+1)):=rfl
  rw [List.getElem?_cons_succ,h1,List.take_succ_cons,h2,List.length_append,Nat.add_assoc]
theorem zKE:∀ (ps:List (List UInt8)) (a:Nat),(told a ps).map (·.1)=ps
 | [],_ =>rfl
 | p :: ps,a =>by
  unfold told
  rw [List.map_cons,zKE ps]
theorem zHr (ver:Int) (tl:List (List UInt8)) (zs:List Rw) (i:Nat):(zAH ver tl zs).take (zAH ver tl (zs.take i)).length=zAH ver tl (zs.take i):=by
 have h:=zCg ver tl (zs.take i) (zs.drop i)
 rw [List.take_append_drop] at h
 rw [h,List.take_left' rfl]
theorem zEn (ver:Int) (tl:List (List UInt8)) (zs:List Rw) (i:Nat):(zAH ver tl (zs.take i)).length≤(zAH ver tl zs).length:=by
 have h:=congrArg List.length (zHr ver tl zs i)
 rw [List.length_take] at h
 omega
theorem zKR (ver:Int) (hv:1≤ver∧ver≤3) (tl ps:List (List UInt8)) (htl:tl.length≤20000) (hts:∀ s ∈ tl,s.length≤3000) (hpl:ps.length≤20000) (hps:∀ s ∈ ps,s.length≤3000) (a j:Nat) (ha:a+j<ps.length) (htx:zAf (ps.drop a)=j) :
  (PNo ver tl ps (a:Int) 3∧¬ ∃ r l,zCK ver tl ((ps.drop a).take (j+1)) r l) ∨ ∃ r l,zCK ver tl ((ps.drop a).take (j+1)) r l∧PYes ver tl ps a (a+j+1) r l:=by
 have hver:ver=1∨ver=2∨ver=3:=by omega
 obtain ⟨p,hp⟩:∃ p,ps[a+j]? = some p:=⟨_,List.getElem?_eq_getElem ha⟩
 obtain ⟨qs,hqs⟩:∃ qs,qs=ps.drop a:=⟨_,rfl⟩
 have hqp:qs[j]? = some p:=by rw [hqs,List.getElem?_drop];exact hp
 have hql:qs.length=ps.length - a:=by rw [hqs,List.length_drop]
 have hqb:∀ s ∈ qs,s.length≤3000:=fun s hs =>hps s (List.mem_of_mem_drop (by rw [← hqs];exact hs))
 rw [← hqs] at htx
 have hpt:zBh p=false:=zHa qs p (by rw [htx];exact hqp)
 have hp3:p.length≤3000:=hqb p (List.mem_of_getElem? hqp)
 have htake:qs.take (j+1)=qs.take j++[p]:=by rw [List.take_add_one,hqp];rfl
 have htxt:∀ t ∈ qs.take j,zBh t=true∧t≠[]∧t.length≤1000000:=fun t ht =>by
  obtain ⟨i,hi⟩:=List.getElem?_of_mem ht
  rw [List.getElem?_take] at hi
  split at hi
  ·rename_i hij
   obtain ⟨t',ht'⟩:=zIl qs i (by omega)
   rw [hi] at ht'
   have h3:=hqb t (List.mem_of_getElem? hi)
   have h4:t=0 :: t':=Option.some.inj ht'
   refine ⟨by rw [h4];rfl,by rw [h4];simp,by omega⟩
  ·cases hi
 have htb:=zMR 3000 tl qs j hts hqb
 have htbl:=zKD tl qs j
 have hsplit:ps=ps.take a++((qs.take j++[p])++qs.drop (j+1)):=by
  rw [← htake,List.take_append_drop,hqs,List.take_append_drop]
 have hal:(ps.take a).length=a:=by rw [List.length_take];omega
 by_cases hG:∃ r l,zCK ver tl (qs.take (j+1)) r l
 ·obtain ⟨r,l,hF⟩:=hG
  have hF2:=hF
  obtain ⟨hm,hnu,hfit,hpay⟩:=hF
  obtain ⟨hd,_⟩:=zEz hqp (by omega) hF2
  refine .inr ⟨r,l,by rw [← hqs];exact hF2,?_⟩
  ·intro S bt N n c A w hN hT hP
   have hn:ps.length=n:=hP.2.1
   have hP2:PlsT w w.heap.size S A n c (ps.take a++(payL ver tl r l++qs.drop (j+1))):=by rw [hpay,htake,← hsplit];exact hP
   refine (zSE S bt w.heap.size N n c a ver tl r l (ps.take a) (qs.drop (j+1)) A hm hfit hnu (by omega) (by omega) (by omega) hal w (Nat.le_refl _) hT hP2).mono ?_
   rintro e w' ⟨A',n',c',S',rfl,h1,_,h2,h3,h4⟩
   refine ⟨A',n',c',S',?_,h1,h2,h3,h4⟩
   have h5:(payL ver tl r l).length=j+1:=by rw [hpay,List.length_take];omega
   rw [h5,← Nat.add_assoc]
 ·refine .inl ⟨?_,by rw [← hqs];exact hG⟩
  ·intro S bt N n c A w hN hS hT hP _
   have hn:ps.length=n:=hP.2.1
   obtain ⟨s,hs⟩:∃ s,s=zBi ver (tblA tl qs j) (Cu.new p 0).byte.1.toNat (zAY p):=⟨_,rfl⟩
   obtain ⟨⟨g1,g2,g3,g4,g5,g6⟩,glen⟩:=zRS ver (tblA tl qs j) 3000 (by omega) htb (Cu.new p 0).byte.1.toNat (zML 3000 p)
   rw [← hs] at g1 g2 g3 g4 g5 g6 glen
   have hfit:Fits s.r s.l:=⟨Nat.le_trans g1 (by unfold maxLen;omega),Nat.le_trans g2 (by unfold maxLen;omega),fun d hd =>Nat.le_trans (g6 d hd).1 (by unfold maxLen;omega)⟩
   have hnu:Nums s.r s.l:=⟨g3,g4,g5,fun d hd =>(g6 d hd).2⟩
   have hl16:s.l.length≤1000:=by have:(zAY p).l.length=0:=rfl;omega
   by_cases hm:MayP ver s.r s.l
   ·refine zSG S bt w.heap.size N n c a ver hver tl (qs.take j) (ps.take a) (qs.drop (j+1)) p A s.r s.l (tblA tl qs j) htxt hpt (by omega) rfl (by rw [← hs]) (by rw [← hs]) hfit hnu hm (fun he =>hG ⟨s.r,s.l,hm,hnu,hfit,by rw [he,htake]⟩) (by omega) (by omega) (by omega) hal w (Nat.le_refl _) hT (by rw [← hsplit];exact hP)
   ·exact zSD S bt w.heap.size N n c a ver hver tl (qs.take j) (ps.take a) (qs.drop (j+1)) p A s.r s.l (tblA tl qs j) htxt hpt (by omega) rfl (by rw [← hs]) (by rw [← hs]) hfit hnu hm hl16 (by omega) (by omega) (by omega) hal w (Nat.le_refl _) hT (by rw [← hsplit];exact hP)
theorem zHJ (ver:Int) (tl ps:List (List UInt8)) (htl:tl.length≤20000) (hts:∀ s ∈ tl,s.length≤3000) (hpl:ps.length≤20000) (hps:∀ s ∈ ps,s.length≤3000) (at_:Int) :
  (∃ e9:Int,(e9=1∨e9=3∨e9=6∨e9=11)∧PNo ver tl ps at_ e9∧NoF ver tl ps at_) ∨ ∃ (a j:Nat) (r:Rc) (l:List Dp),at_=(a:Int)∧a+j+1≤ps.length∧zCK ver tl ((ps.drop a).take (j+1)) r l∧PYes ver tl ps a (a+j+1) r l:=by
 by_cases hv:1≤ver∧ver≤3
 ·by_cases h0:at_<0
  ·exact .inl ⟨1,.inl rfl,zHT fun bt n c A w _ _ =>zOx ver hv bt A n c at_ h0 w,fun a nx r l e =>by omega⟩
  ·by_cases h1:(ps.length:Int)<at_
   ·exact .inl ⟨1,.inl rfl,zHT fun bt n c A w hP _ =>zLo ver hv bt A n c at_ (by rw [← hP.2.1];exact h1) w,fun a nx r l e h3 h4 =>by omega⟩
   ·obtain ⟨a,rfl⟩:∃ a:Nat,at_=(a:Int):=⟨at_.toNat,by omega⟩
    have hal:a≤ps.length:=by omega
    have hle:=zIm (ps.drop a)
    rw [List.length_drop] at hle
    by_cases hfull:zAf (ps.drop a)=ps.length - a
    ·refine .inl ⟨6,.inr (.inr (.inl rfl)),zHT fun bt n c A w hP hA =>?_,fun a2 nx r l e h3 h4 hF =>?_⟩
     ·have hn:=hP.2.1
      by_cases hlt:a<n
      ·exact zOz ver hv bt w.heap.size a n c ps A hlt (by omega) (by omega) w (Nat.le_refl _) hP
      ·obtain rfl:a=n:=by omega
       exact zOw ver hv bt a c w.heap.size ps A hA (by omega) w (Nat.le_refl _) hP
     ·obtain rfl:a=a2:=by omega
      have:=zDe h3 h4 hF
      omega
    ·rcases zKR ver hv tl ps htl hts hpl hps a (zAf (ps.drop a)) (by omega) rfl with ⟨h2,hno⟩ | ⟨r,l,h2,h3⟩
     ·refine .inl ⟨3,.inr (.inl rfl),h2,fun a2 nx r l e h5 h6 hF =>hno ?_⟩
      obtain rfl:a=a2:=by omega
      have h7:=zDe h5 h6 hF
      exact ⟨r,l,by rw [show zAf (ps.drop a)+1=nx - a by omega];exact hF⟩
     ·exact .inr ⟨a,_,r,l,rfl,by omega,h2,h3⟩
 ·exact .inl ⟨11,.inr (.inr (.inr rfl)),zHT fun bt n c A w _ _ =>zQy ver hv _ A n c at_ w,fun a nx r l _ _ _ hF =>hv ⟨hF.1.1,hF.1.2.1⟩⟩
structure StpP (ver:Int) (ps tl:List (List UInt8)) (a:Nat) (x:Rdd):Prop where
 lt:a<x.2.2
 le:x.2.2≤ps.length
 found:zCK ver tl ((ps.drop a).take (x.2.2 - a)) x.1 x.2.1
 up:UP ver tl ps (a:Int) x.1 x.2.1 (x.2.2:Int) 0 (tabT ver tl x.1 x.2.1)
def ChnP (ver:Int) (ps:List (List UInt8)) (xs:List Rdd):Prop:=∀ (i:Nat) (x:Rdd),xs[i]? = some x→StpP ver ps (tbO ver (xs.take i)) (atO (xs.take i)) x
theorem ChnP.snoc {ver:Int} {ps:List (List UInt8)} {xs:List Rdd} {x:Rdd} (h:ChnP ver ps xs) (hx:StpP ver ps (tbO ver xs) (atO xs) x):ChnP ver ps (xs++[x]):=by
 intro i y hy
 rcases Nat.lt_or_ge i xs.length with hi | hi
 ·rw [List.getElem?_append_left hi] at hy
  rw [List.take_append_of_le_length (Nat.le_of_lt hi)]
  exact h i y hy
 ·rw [List.getElem?_append_right hi] at hy
  have h0:i - xs.length=0:=by have:=(List.getElem?_eq_some_iff.1 hy).1;simpa using this
  rw [h0] at hy
  obtain rfl:x=y:=by simpa using hy
  obtain rfl:i=xs.length:=by omega
  rw [List.take_left' rfl]
  exact hx
theorem ChnP.init {ver:Int} {ps:List (List UInt8)} {xs:List Rdd} {x:Rdd} (h:ChnP ver ps (xs++[x])):ChnP ver ps xs∧StpP ver ps (tbO ver xs) (atO xs) x:=by
 refine ⟨fun i y hy =>?_,?_⟩
 ·have hi:=(List.getElem?_eq_some_iff.1 hy).1
  have h1:=h i y (by rw [List.getElem?_append_left hi];exact hy)
  rwa [List.take_append_of_le_length (Nat.le_of_lt hi)] at h1
 ·have h1:=h xs.length x (by simp)
  rwa [List.take_left' rfl] at h1
theorem ChnP.bounds {ver:Int} {ps:List (List UInt8)}:∀ xs:List Rdd,ChnP ver ps xs→(tbO ver xs).length≤atO xs∧atO xs≤ps.length∧xs.length≤atO xs∧∀ s ∈ tbO ver xs,s.length≤3000:=by
 refine zPt ?_ ?_
 ·intro _
  exact ⟨Nat.zero_le _,Nat.zero_le _,Nat.zero_le _,fun s hs =>by cases hs⟩
 ·intro xs x ih h
  obtain ⟨h1,h2⟩:=h.init
  obtain ⟨a1,a2,a3,a4⟩:=ih h1
  rw [zGu,zDU,List.length_append,List.length_singleton]
  have h3:=zPz h2.found
  rw [List.length_take,List.length_drop] at h3
  have h4:=h2.lt
  have h5:=h2.le
  exact ⟨by omega,h5,by omega,zMP h2.found.1 a4⟩
structure zGx (ver:Int) (ps:List (List UInt8)) (xs:List Rdd):Prop where
 chn:ChnP ver ps xs
 no:NoF ver (tbO ver xs) ps (atO xs:Int)
 stop:∃ e9:Int,(e9=1∨e9=3∨e9=6∨e9=11)∧UP ver (tbO ver xs) ps (atO xs:Int) rc0 [] 0 e9 (tbO ver xs)
theorem zMY (ver:Int) (ps:List (List UInt8)) (hpl:ps.length≤20000) (hps:∀ s ∈ ps,s.length≤3000):∀ (k:Nat) (xs:List Rdd),ChnP ver ps xs→ps.length≤atO xs+k→∃ ys,zGx ver ps ys:=by
 intro k
 induction k with
 | zero =>
  intro xs h hk
  obtain ⟨a1,a2,a3,a4⟩:=ChnP.bounds xs h
  rcases zHJ ver (tbO ver xs) ps (by omega) a4 hpl hps (atO xs:Int) with ⟨e9,he,h1,h3⟩ | ⟨a,j,r,l,ha,haj,hF,h1⟩
  ·exact ⟨xs,h,h3,e9,he,zQa h1⟩
  ·omega
 | succ k ih =>
  intro xs h hk
  obtain ⟨a1,a2,a3,a4⟩:=ChnP.bounds xs h
  rcases zHJ ver (tbO ver xs) ps (by omega) a4 hpl hps (atO xs:Int) with ⟨e9,he,h1,h3⟩ | ⟨a,j,r,l,ha,haj,hF,h1⟩
  ·exact ⟨xs,h,h3,e9,he,zQa h1⟩
  ·obtain rfl:atO xs=a:=by omega
   have hs:StpP ver ps (tbO ver xs) (atO xs) (r,l,atO xs+j+1):=⟨by show atO xs<atO xs+j+1;omega,haj,by show zCK _ _ ((ps.drop _).take (atO xs+j+1 - atO xs)) _ _;rw [show atO xs+j+1 - atO xs=j+1 by omega];exact hF,zSb h1⟩
   exact ih _ (h.snoc hs) (by rw [zDU];show _≤atO xs+j+1+k;omega)
theorem zMZ (ver:Int) (ps:List (List UInt8)) (hpl:ps.length≤20000) (hps:∀ s ∈ ps,s.length≤3000):∃ xs,zGx ver ps xs :=
 zMY ver ps hpl hps ps.length [] (fun i x hx =>by cases hx) (Nat.le_add_left _ _)
end Go.Proofs.YtekchkfjgofnkaaGreatDoor
