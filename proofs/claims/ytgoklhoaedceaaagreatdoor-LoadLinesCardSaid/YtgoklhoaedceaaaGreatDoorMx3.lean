/- Texts of one proof. -/
import Derived.ChangeAlike
import Derived.ChangeMaps5
import Derived.Laws.Runes
import Derived.Laws.Strings2
import Derived.Laws.Strings3
import Derived.Lib.AppendIntMem
import Derived.Lib.Join
import Derived.RegionTactic
import Derived.SliceStrings
import Derived.Test.YtgoklhoaedceaaaGreatDoorSh
import Derived.Test.YtgoklhoaedceaaaGreatDoorMx2
set_option maxRecDepth 100000
set_option maxHeartbeats 8000000
namespace Go.Proofs.YtgoklhoaedceaaaGreatDoor
open Go.RowKit
theorem Laid.below {w w':World} (h:Laid w) (hb:Below w.heap.size w w'):Laid w':=fun i hi =>by
 have h1:=h i hi
 have h2:0<w.heap.size:=by
  rcases Nat.lt_or_ge 0 w.heap.size with hlt | hge
  ·exact hlt
  ·rw [World.cell?,Array.getElem?_eq_none hge] at h1
   cases h1
 exact (hb.cell (p:=⟨0,i,none⟩) h2).trans h1
theorem PRow.below {w w':World} {B:Nat} {v:Value} {bs:List UInt8} (h:PRow w B v bs) (hb:Below B w w'):PRow w' B v bs:=by
 obtain ⟨A,n,c,rfl,h1,h2,hr⟩:=h
 exact ⟨A,n,c,rfl,h1,h2,hr.below hb⟩
theorem PRow.more {w:World} {B B':Nat} {v:Value} {bs:List UInt8} (h:PRow w B v bs) (hB:B≤B'):PRow w B' v bs:=by
 obtain ⟨A,n,c,rfl,h1,h2,hr⟩:=h
 exact ⟨A,n,c,rfl,h1,h2,hr.more hB⟩
theorem zIu (W:World) (v:Value) (bs:List UInt8) (hl:Laid W) (hr:PRow W W.heap.size v bs) :
  Calls Tryz.prog 32 #[.slice (some ⟨W.heap.size,0,none⟩) 1 1] (W.alloc (.cells #[v] 59)) fun e w' =>e=.returned (wv (crc bs))∧W.alloc (.cells #[v] 59)=w':=by
 have hb:Below W.heap.size W (W.alloc (.cells #[v] 59)):=(Below.refl _ W).alloc (Nat.le_refl _) _
 have h:=zIt (some ⟨W.heap.size,0,none⟩) 1 1 [v] [bs] (by omega) (W.alloc (.cells #[v] 59)) (hl.below hb)
  ⟨rfl,fun _ =>⟨_,rfl,by simp,fun j u hu =>by
   cases j with
   | zero =>
    have hu':v=u:=by simpa using hu
    subst hu'
    simp [Addr.add]
   | succ j =>simp at hu⟩⟩
  ⟨rfl,fun i u hu =>by
   cases i with
   | zero =>
    have hu':v=u:=by simpa using hu
    subst hu'
    exact ⟨bs,rfl,(hr.below hb).more (by simp)⟩
   | succ i =>simp at hu⟩
 simpa using h
theorem zCd.below {w w':World} {B:Nat} {vs:List Value} {ps:List (List UInt8)} (h:zCd w B vs ps) (hb:Below B w w'):zCd w' B vs ps :=
 ⟨h.1,fun i v hv =>by
  obtain ⟨bs,h1,h2⟩:=h.2 i v hv
  exact ⟨bs,h1,h2.below hb⟩⟩
theorem zCd.more {w:World} {B B':Nat} {vs:List Value} {ps:List (List UInt8)} (h:zCd w B vs ps) (hB:B≤B'):zCd w B' vs ps :=
 ⟨h.1,fun i v hv =>by
  obtain ⟨bs,h1,h2⟩:=h.2 i v hv
  exact ⟨bs,h1,h2.more hB⟩⟩
theorem zHx (W:World) (bs:List UInt8) (cap:Nat) (fr:Nat×Nat) (hb:bs.length≤1073741824) (hc:bs.length≤cap) :
  PRow (W.alloc (.cells (bytesRow (tx bs) cap) 5 fr)) (W.heap.size+1) (.slice (some ⟨W.heap.size,0,none⟩) bs.length cap) bs :=
 ⟨_,_,_,rfl,hc,hb,by simp,fun _ =>⟨_,rfl,by simp,fun j u hu =>by
  have h0:Addr.add ⟨W.heap.size,0,none⟩ j=⟨W.heap.size,j,none⟩:=by
   unfold Addr.add
   split
   ·rename_i h;rw [h]
   ·simp
  have hj:j<bs.length:=by
   have:=(List.getElem?_eq_some_iff.1 hu).1
   simpa using this
  rw [h0]
  simp only [World.cell?,World.alloc,Array.getElem?_push_size]
  rw [bytesRow_at (tx bs) cap j (by simpa [tx] using hj)]
  rw [List.getElem?_map,List.getElem?_eq_getElem hj] at hu
  have hu':bv bs[j]=u:=by simpa using hu
  rw [← hu']
  rfl⟩⟩
theorem zHy (bs:List UInt8) (hb:bs.length≤1073741824) (W:World) (hl:Laid W) (X:World)
  (hX:X=(W.drew.alloc (.cells (bytesRow (tx bs) (grownCap W (tx bs).size 0 5)) 5 ((bytesRow (tx bs) (grownCap W (tx bs).size 0 5)).size,(bytesRow (tx bs) (grownCap W (tx bs).size 0 5)).size+1))).alloc (.cells #[.slice (some ⟨W.heap.size,0,none⟩) (tx bs).size (grownCap W (tx bs).size 0 5)] 59)) :
  Calls Tryz.prog 32 #[.slice (some ⟨W.heap.size+1,0,none⟩) 1 1] X fun e w' =>e=.returned (wv (crc bs))∧X=w':=by
 have hge:=grownCap_ge W (tx bs).size 0 5
 generalize grownCap W (tx bs).size 0 5=cap at hge hX
 generalize ((bytesRow (tx bs) cap).size,(bytesRow (tx bs) cap).size+1)=fr at hX
 subst hX
 rw [zAN] at hge ⊢
 have hrow:=zHx W.drew bs cap fr hb hge
 have hld:Laid (W.drew.alloc (.cells (bytesRow (tx bs) cap) 5 fr)):=hl.below ((Below.refl _ W).drew.alloc (by simp) _)
 have h:=zIu (W.drew.alloc (.cells (bytesRow (tx bs) cap) 5 fr)) (.slice (some ⟨W.heap.size,0,none⟩) bs.length cap) bs hld (hrow.more (by simp))
 have e:(W.drew.alloc (.cells (bytesRow (tx bs) cap) 5 fr)).heap.size=W.heap.size+1:=by simp
 rw [e] at h
 exact h
open Go.ChangeShapes Go.WideShapes Go.ChangeAt Go.RowKit
theorem zHN (s:ByteArray):tx s.data.toList=s:=by
 cases s
 simp [tx]
theorem zGC {H:Type} {enc:TypeId×Value→H} {P:Program} {W:World} {t:TypeId} {v:Value} {d:DataW H} {ps:List MemPlace} {r:Reach} {b0:Nat} (ht:P.underlying t=some .string)
  (hval:Value.okWide P W r b0 t v) (hd:DataW.Trod enc P W 0 (fun _ =>true) true t v d ps):∃ bs:List UInt8,v=.string (tx bs)∧ps=[]:=by
 obtain ⟨s,rfl,_,hps,_⟩:=ChangeMaps.open_string ht hval hd
 exact ⟨s.data.toList,by rw [zHN],hps⟩
theorem zCl {n:Nat} (h:n<top):qv (BitVec.ofNat 64 n)=.int .u64 (n:Int):=by
 unfold qv
 rw [BitVec.toNat_ofNat,Nat.mod_eq_of_lt (show n<2 ^ 64 from h)]
theorem zFW (l:List UInt8) (a b:Nat):(tx l).extract a b=tx ((l.take b).drop a):=by
 apply ByteArray.ext
 simp [tx,ByteArray.data_extract]
 rw [List.drop_take]
theorem zEm (a b:List UInt8):Lib.join ([tx a,tx b].map (·.data.toList)) ({ data:=#[32] }:ByteArray).data.toList=a++32 :: b:=by
 simp [Lib.join,List.intercalate,tx]
theorem zEB (a b:List UInt8) (ha:a.length≤1000) (hb:b.length≤1000) (W:World) :
  Calls Tryz.prog 28 #[.slice (some ⟨W.heap.size,0,none⟩) 2 2] (W.alloc (.cells #[.string (tx a),.string (tx b)] 9)) fun e w' =>e=.returned (.string (tx (a++32 :: b)))∧Below W.heap.size W w':=by
 have h2:=Tryz.strings_Join W.heap.size 0 2 [tx a,tx b] { data:=#[32] } (W.alloc (.cells #[.string (tx a),.string (tx b)] 9)) (fun j x hx =>by
  simp only [World.cell?,World.alloc,Array.getElem?_push_size,Nat.zero_add]
  match j,hx with
  | 0,hx =>simpa using hx
  | 1,hx =>simpa using hx) (by simp) (by simp) (by simp) (by rw [zEm];simp;omega)
 rw [zEm] at h2
 have H:=yh h2
 have hb0:=yh ((Below.refl _ W).alloc (Nat.le_refl _) (.cells #[.string (tx a),.string (tx b)] 9))
 clear h2
 generalize tx a=sa at *
 generalize tx b=sb at *
 go_enter Tryz.func28,Tryz.ntmps28
 go_wp2_with fail
 refine H.out.mono ?_
 rintro e w3 ⟨rfl,hb⟩
 have hb1:=hb0.out.trans (hb.mono (by simp))
 clear hb
 go_wp2
 go_ret
 exact ⟨rfl,hb1⟩
def sum8 (l:List UInt8):List UInt8:=(hexl (crc l).toNat 16).drop 8
theorem zCJ (l:List UInt8):(sum8 l).length=8:=by unfold sum8;rw [List.length_drop,zAk]
def zAc (l:List UInt8):List UInt8:=(l++([115,117,109]++32 :: sum8 l))++[10]
theorem zER (l:List UInt8):(zAc l).length=l.length+13:=by unfold zAc;simp [zCJ]
theorem zJE (z:Nat) (hz:z<4294967296) (W:World):Calls Tryz.prog 31 #[.int .u64 (z:Int)] W fun e w' =>e=.returned (.string (tx (hexl z 16)))∧Below W.heap.size W w':=by
 have h:=zDm (BitVec.ofNat 64 z) W
 rw [zCl (show z<top by unfold top;omega),BitVec.toNat_ofNat,Nat.mod_eq_of_lt (show z<2 ^ 64 by omega)] at h
 exact h
theorem zJM (z:Nat) (W:World):(Instr.slice 9 (.string (tx (hexl z 16))) (some (.int .i64 8)) none none).run Tryz.prog W=.ok (.string (tx ((hexl z 16).drop 8))) W:=by
 have hsz:(tx (hexl z 16)).size=16:=by rw [zAN,zAk]
 have h1:=run_slice_string_from_if (P:=Tryz.prog) W 9 (tx (hexl z 16)) .i64 8 Tryz.underlying9
 rw [if_pos (by rw [hsz];omega),hsz,zFW,List.take_of_length_le (by rw [zAk];exact Nat.le_refl _)] at h1
 exact h1
theorem zDd (l:List UInt8) (hn:l.length≤100000000) (w:World) (hl:Laid w) :
  Calls Tryz.prog 12 #[.string (tx l)] w fun e w' =>e=.returned (.string (tx (zAc l)))∧Below w.heap.size w w':=by
 have HTX:Hid (∀ W X,Below w.heap.size w W→X=(W.drew.alloc (.cells (bytesRow (tx l) (grownCap W (tx l).size 0 5)) 5 ((bytesRow (tx l) (grownCap W (tx l).size 0 5)).size,(bytesRow (tx l) (grownCap W (tx l).size 0 5)).size+1))).alloc (.cells #[.slice (some ⟨W.heap.size,0,none⟩) (tx l).size (grownCap W (tx l).size 0 5)] 59) →
   Calls Tryz.prog 32 #[.slice (some ⟨W.heap.size+1,0,none⟩) 1 1] X fun e w' =>e=.returned (wv (crc l))∧X=w'):=fun W X hb hX =>zHy l (by omega) W (hl.below hb) X hX
 have hzl:=(crc l).isLt
 have hv:wv (crc l)=.int .u32 ((crc l).toNat:Int):=rfl
 have HJ:=yh (fun W =>zEB [115,117,109] (sum8 l) (by simp) (by rw [zCJ];omega) W)
 have HA1:Hid (∀ W:World,(Op.stringOp .add (tx l) (tx ([115,117,109]++32 :: sum8 l))).run Tryz.prog W=.ok (.string (tx (l++([115,117,109]++32 :: sum8 l)))) W):=fun W =>zAa W _ _ (by simp [zCJ];omega)
 have HA2:Hid (∀ W:World,(Op.stringOp .add (tx (l++([115,117,109]++32 :: sum8 l))) { data:=#[10] }).run Tryz.prog W=.ok (.string (tx (zAc l))) W):=fun W =>zAa W _ [10] (by simp [zCJ];omega)
 rw [hv] at HTX
 obtain ⟨z,hz⟩:∃ z,z=(crc l).toNat:=⟨_,rfl⟩
 have hs8:tx (sum8 l)=tx ((hexl z 16).drop 8):=by rw [hz];rfl
 rw [← hz] at HTX hzl
 have HX:=yh (fun W =>zJE z (by omega) W)
 have HS8:=yh (fun W =>zJM z W)
 have hxs:(tx (hexl z 16)).size=16:=by rw [zAN,zAk]
 have hw:IntKind.u64.wrap (z:Int)=(z:Int):=zBv z (by omega)
 rw [← hs8] at HS8
 generalize tx (hexl z 16)=hx at *
 generalize tx (sum8 l)=h8 at *
 generalize tx (l++([115,117,109]++32 :: sum8 l))=q1 at *
 generalize tx (zAc l)=q2 at *
 generalize tx ([115,117,109]++32 :: sum8 l)=j1 at *
 generalize tx l=s at *
 have hcs:=fun (W:World) =>run_bytes_of_string (P:=Tryz.prog) W 9 59 5 s Tryz.underlying9 Tryz.underlying59 Tryz.underlying5
 have HS:=HS8.out
 have A1:=HA1.out
 have A2:=HA2.out
 clear hz hs8 hv hzl
 go_enter Tryz.func12,Tryz.ntmps12
 go_wp2_with fail
 refine (HTX.out _ _ (Below.refl _ _) rfl).mono ?_
 rintro e w1 ⟨rfl,rfl⟩
 go_wp2_with fail
 refine (HX.out _).mono ?_
 rintro e w2 ⟨rfl,hb2⟩
 go_wp2_with fail
 refine (HJ.out _).mono ?_
 rintro e w3 ⟨rfl,hb3⟩
 go_wp2
 go_ret
 exact ⟨rfl,(((((Below.refl _ w).alloc (Nat.le_refl _) _).alloc (by simp) _).drew).trans (hb2.mono (by simp;omega))).trans (hb3.mono (by have:=hb2.size;simp at this;omega))⟩
open Go.Sort Go.RowKit
def zAs (w:World):Prop:=Lib.TabIs Tryz.prog w "internal/strconv.uint64pow10" .u64 Lib.pow10Tab
theorem zFm (w:World) (k:Nat) (os:Array Obj):Below w.heap.size w (grow (w.drewN k) os) :=
 ⟨rfl,rfl,rfl,by show w.heap.size≤(w.heap++os).size;simp,fun b hb =>Lib.heap_grow_old w k os b hb⟩
theorem zHh (u:Nat) (hu64:u<18446744073709551616) (w:World) (htab:zAs w) :
  Calls Tryz.prog 73 #[.int .u64 (u:Int),.int .i64 10] w fun e w' =>e=.returned (.string (tx (Lib.decDigits u)))∧Below w.heap.size w w':=by
 by_cases hs:u<100
 ·have HSM:=yh (fun W =>Tryz.internal_strconv_small u hs W)
  have hw:IntKind.i64.wrap (u:Int)=(u:Int):=by rw [IntKind.wrap_i64];omega
  have hui:(u:Int)<100:=by omega
  go_enter Tryz.func73,Tryz.ntmps73
  go_wp2_with fail
  refine (HSM.out _).mono ?_
  rintro e w1 ⟨rfl,rfl⟩
  go_wp2
  go_ret
  exact ⟨rfl,Below.refl _ _⟩
 ·have hu1:1≤u:=by omega
  have hui:¬ (u:Int)<100:=by omega
  have hnd20:Lib.nDigits u≤20:=by have:=Lib.numDigits_eq u hu1 hu64;split at this <;> omega
  have hH0:=Lib.holds_zero0 w 122 (Lib.nDigits u) (by omega)
  have hfmt:=Tryz.internal_strconv_formatBase10 w.heap.size 0 24 u (Array.replicate (Lib.nDigits u) 0) (w.alloc (.cells Lib.zeros24 122)) hH0 (by rw [Array.size_replicate];exact Lib.lt_pow_nDigits u) hu64 (by rw [Array.size_replicate];omega)
  rw [Array.size_replicate] at hfmt
  have hal:Tryz.prog.arrayLen 122=24:=by kernel_rfl
  have hsl2:∀ W,(Instr.sliceAt 122 (.pointer (some ⟨w.heap.size,0,none⟩)) none (some (.int .i64 (Lib.nDigits u:Int))) none).run Tryz.prog W=.ok (.slice (some ⟨w.heap.size,0,none⟩) (Lib.nDigits u) 24) W:=fun W =>by
   rw [run_sliceAt_array_h W 122 ⟨w.heap.size,0,none⟩ (by kernel_rfl) .i64 (Lib.nDigits u:Int) (by omega) (by rw [hal];omega)]
   go_simp
  have HH0:=yh hH0
  have HFM:=yh hfmt
  have HND:=yh (fun W h =>Tryz.internal_strconv_numDigits u hu1 hu64 W h)
  have HTA:=yh (Lib.tabIs_alloc (P:=Tryz.prog) htab (.cells Lib.zeros24 122))
  clear hH0 hfmt htab hal
  go_enter Tryz.func73,Tryz.ntmps73
  go_wp2_with fail
  refine (HND.out _ HTA.out).mono ?_
  rintro e w1 ⟨rfl,rfl⟩
  go_wp2_with fail
  refine HFM.out.mono ?_
  rintro e w' ⟨rfl,k,v',dk,rfl,hF⟩
  have hcv:(convert 59 9 (.slice (some ⟨w.heap.size,0,none⟩) (Lib.nDigits u) 24)).run Tryz.prog ((putRow (fun (b:UInt8) =>Value.int .u8 (b.toNat:Int)) (w.alloc (.cells Lib.zeros24 122)) w.heap.size 0 dk).drewN k)=.ok (.string (tx (Lib.decDigits u))) ((putRow (fun (b:UInt8) =>Value.int .u8 (b.toNat:Int)) (w.alloc (.cells Lib.zeros24 122)) w.heap.size 0 dk).drewN k):=by
   have h:=run_convert_bytes_back (P:=Tryz.prog) ((putRow (fun (b:UInt8) =>Value.int .u8 (b.toNat:Int)) (w.alloc (.cells Lib.zeros24 122)) w.heap.size 0 dk).drewN k) 59 9 5 ⟨w.heap.size,0,none⟩ 24 (Lib.decDigits u) Tryz.underlying59 Tryz.underlying5 Tryz.underlying9 (fun j hj =>by
    rw [Lib.row_is_numeral hF j hj,Lib.add_plain,World.cell?_drewN]
    exact cell?_putRow (fun (b:UInt8) =>Value.int .u8 (b.toNat:Int)) _ w.heap.size 0 _ dk HH0.out (by rw [hF.size,Array.size_replicate]) j (by rw [hF.size];rw [Lib.decDigits_length] at hj;exact hj))
   rw [Lib.decDigits_length] at h
   exact h
  obtain ⟨os,eo⟩:=Lib.fin_at w (.cells Lib.zeros24 122) dk k 0
  have HB:=yh (zFm w k os)
  rw [← eo] at HB
  clear eo HFM HND HTA
  go_wp2
  go_ret
  exact ⟨rfl,HB.out⟩
theorem zIY (u:Nat) (hu64:u<18446744073709551616) (w:World) (htab:zAs w) :
  Calls Tryz.prog 42 #[.int .u64 (u:Int),.int .i64 10] w fun e w' =>e=.returned (.string (tx (Lib.decDigits u)))∧Below w.heap.size w w':=by
 have H:=yh (zHh u hu64 w htab)
 go_enter Tryz.func42,Tryz.ntmps42
 go_wp2_with fail
 refine H.out.mono ?_
 rintro e w1 ⟨rfl,hb⟩
 go_wp2
 go_ret
 exact ⟨rfl,hb⟩
theorem zGY (m:Nat) (hm:m<10):({ data:=#[48,49,50,51,52,53,54,55,56,57] }:ByteArray).extract m (m+1)=tx [UInt8.ofNat (48+m)]:=by
 have:∀ j:Fin 10,({ data:=#[48,49,50,51,52,53,54,55,56,57] }:ByteArray).extract j.val (j.val+1)=tx [UInt8.ofNat (48+j.val)]:=by decide
 exact this ⟨m,hm⟩
theorem zAX {u:Nat} (h:u<10):Lib.decDigits u=[UInt8.ofNat (48+u)]:=by unfold Lib.decDigits;rw [dif_pos h]
theorem zBh {u:Nat} (h:¬ u<10):Lib.decDigits u=Lib.decDigits (u / 10)++Lib.decDigits (u % 10):=by
 rw [zAX (show u % 10<10 by omega)]
 conv =>lhs;unfold Lib.decDigits;rw [dif_neg h]
theorem zFp (u:Nat) (hu64:u<18446744073709551616) (w:World) :
  Calls Tryz.prog 52 #[.int .u64 (u:Int)] w fun e w' =>e=.returned (.string (tx (Lib.decDigits u)))∧w=w':=by
 induction u using Nat.strongRecOn generalizing w with
 | _ u ih =>
  by_cases hs:u<10
  ·have hsl:∀ W,(Instr.slice 9 (.string { data:=#[48,49,50,51,52,53,54,55,56,57] }) (some (.int .u64 (u:Int))) (some (.int .u64 ((u:Int)+1))) none).run Tryz.prog W=.ok (.string (tx (Lib.decDigits u))) W:=fun W =>by
    have h1:=run_slice_string (P:=Tryz.prog) W 9 { data:=#[48,49,50,51,52,53,54,55,56,57] } .u64 .u64 (u:Int) ((u:Int)+1) Tryz.underlying9 (by omega) (by omega) (by show ((u:Int)+1)≤10;omega)
    rw [h1,Int.toNat_natCast,show ((u:Int)+1).toNat=u+1 by omega,zGY u hs,zAX hs]
   have hw:IntKind.u64.wrap ((u:Int)+1)=(u:Int)+1:=by rw [IntKind.wrap_u64];omega
   have hui:(u:Int)<10:=by omega
   clear ih
   go_enter Tryz.func52,Tryz.ntmps52
   go_wp2
   go_ret
   exact ⟨rfl,rfl⟩
  ·have h1:=yh (fun W =>ih (u / 10) (by omega) (by omega) W)
   have h2:=yh (fun W =>ih (u % 10) (by omega) (by omega) W)
   have hln:(Lib.decDigits (u / 10)).length≤30:=by
    have h3:=Lib.numDigits_eq (u / 10) (by omega) (by omega)
    rw [Lib.decDigits_length]
    split at h3 <;> omega
   have hadd:∀ W:World,(Op.stringOp .add (tx (Lib.decDigits (u / 10))) (tx (Lib.decDigits (u % 10)))).run Tryz.prog W=.ok (.string (tx (Lib.decDigits u))) W:=fun W =>by
    rw [zBh hs]
    exact zAa W _ _ (by rw [zAX (show u % 10<10 by omega)];simp;omega)
   obtain ⟨q,hq⟩:∃ q,q=u / 10:=⟨_,rfl⟩
   obtain ⟨r,hr⟩:∃ r,r=u % 10:=⟨_,rfl⟩
   have k1:(u:Int) / 10=(q:Int):=by omega
   have k2:(u:Int) % 10=(r:Int):=by omega
   have k3:=zBv q (by omega)
   have k4:=zBv r (by omega)
   have hui:¬ (u:Int)<10:=by omega
   rw [← hq] at h1 hadd
   rw [← hr] at h2 hadd
   clear ih hln hq hr
   generalize tx (Lib.decDigits u)=s at *
   generalize tx (Lib.decDigits q)=s1 at *
   generalize tx (Lib.decDigits r)=s2 at *
   go_enter Tryz.func52,Tryz.ntmps52
   go_wp2_with fail
   refine (h1.out _).mono ?_
   rintro e w1 ⟨rfl,rfl⟩
   go_wp2_with fail
   refine (h2.out _).mono ?_
   rintro e w2 ⟨rfl,rfl⟩
   go_wp2
   go_ret
   exact ⟨rfl,rfl⟩
def okb (b:UInt8):Bool:=decide (33≤b.toNat∧b.toNat≤126∧b.toNat≠92)
def sgn (all:Bool) (b:UInt8):List UInt8:=if all=false∧okb b=true then [b] else [92,dig (b.toNat / 16),dig (b.toNat % 16)]
def eput (s:List UInt8):List UInt8:=if s=[] then [45] else s.flatMap (sgn (decide (s=[45])))
def ahd (c:UInt8) (l:List UInt8):UInt8×Nat :=
 match l with
 | a :: b :: _ =>if c=92 then (match hval a,hval b with | some h,some k =>(UInt8.ofNat (16 * h+k),3) | _,_ =>(c,1)) else (c,1)
 | _ =>(c,1)
theorem zDG (c:UInt8) (l:List UInt8):(ahd c l).2=1∨((ahd c l).2=3∧2≤l.length):=by
 unfold ahd
 split
 ·split
  ·split
   ·right;simp
   ·left;rfl
  ·left;rfl
 ·left;rfl
def erd:Nat→List UInt8→List UInt8
 | 0,_ =>[]
 | _+1,[] =>[]
 | f+1,c :: l =>(ahd c l).1 :: erd f ((c :: l).drop (ahd c l).2)
def zBP (w:List UInt8):List UInt8:=if w=[45] then [] else erd w.length w
theorem zHd:∀ (f g:Nat) (w:List UInt8),w.length≤f→f≤g→erd g w=erd f w:=by
 intro f
 induction f with
 | zero =>
  intro g w h1 _
  have:w=[]:=List.eq_nil_of_length_eq_zero (by omega)
  subst this
  cases g <;> rfl
 | succ f ih =>
  intro g w h1 h2
  cases g with
  | zero =>omega
  | succ g =>
   cases w with
   | nil =>rfl
   | cons c l =>
    have h3:((c :: l).drop (ahd c l).2).length≤f:=by
     have:=zDG c l
     simp only [List.length_drop,List.length_cons] at *
     omega
    show _ :: _=_ :: _
    rw [ih g _ h3 (by omega)]
def rest (w:List UInt8):List UInt8:=erd w.length w
theorem zHp:rest []=[]:=rfl
theorem zDA (c:UInt8) (l:List UInt8):rest (c :: l)=(ahd c l).1 :: rest ((c :: l).drop (ahd c l).2):=by
 unfold rest
 show (ahd c l).1 :: erd l.length ((c :: l).drop (ahd c l).2)=_
 have:=zDG c l
 rw [zHd ((c :: l).drop (ahd c l).2).length l.length _ (Nat.le_refl _) (by simp only [List.length_drop,List.length_cons];omega)]
theorem zBg {b:UInt8} (h:okb b=true):sgn false b=[b]:=by simp [sgn,h]
theorem zBU {a:Bool} {b:UInt8} (h:¬ (a=false∧okb b=true)):sgn a b=[92,dig (b.toNat / 16),dig (b.toNat % 16)]:=by rw [sgn,if_neg h]
theorem zGQ (b:UInt8) (l:List UInt8):ahd 92 (dig (b.toNat / 16) :: dig (b.toNat % 16) :: l)=(b,3):=by
 have h1:hval (dig (b.toNat / 16))=some (b.toNat / 16):=zDN ⟨b.toNat / 16,by have:=b.toNat_lt;omega⟩
 have h2:hval (dig (b.toNat % 16))=some (b.toNat % 16):=zDN ⟨b.toNat % 16,by omega⟩
 have h3:UInt8.ofNat (16 * (b.toNat / 16)+b.toNat % 16)=b:=by
  rw [show 16 * (b.toNat / 16)+b.toNat % 16=b.toNat by omega];simp
 simp only [ahd,h1,h2,if_true,h3]
theorem zHR {b:UInt8} (h:okb b=true) (l:List UInt8):ahd b l=(b,1):=by
 have h1:b≠92:=by
  rintro rfl
  simp [okb] at h
 unfold ahd
 split
 ·rw [if_neg h1]
 ·rfl
theorem zDU (a:Bool) (b:UInt8) (l:List UInt8):rest (sgn a b++l)=b :: rest l:=by
 by_cases h:a=false∧okb b=true
 ·rw [h.1,zBg h.2]
  show rest (b :: l)=_
  rw [zDA,zHR h.2];rfl
 ·rw [zBU h]
  show rest (92 :: dig (b.toNat / 16) :: dig (b.toNat % 16) :: l)=_
  rw [zDA,zGQ];rfl
theorem zDB (a:Bool) (s:List UInt8):rest (s.flatMap (sgn a))=s:=by
 induction s with
 | nil =>rfl
 | cons b s ih =>rw [List.flatMap_cons,zDU,ih]
theorem zJL (a:Bool) (b:UInt8):sgn a b≠[]:=by
 by_cases h:a=false∧okb b=true
 ·rw [h.1,zBg h.2];simp
 ·rw [zBU h];simp
theorem zHe {a:Bool} {s:List UInt8} {c:UInt8} (h:s.flatMap (sgn a)=[c]):s=[c]∧a=false:=by
 cases s with
 | nil =>simp at h
 | cons b s =>
  rw [List.flatMap_cons] at h
  by_cases h1:a=false∧okb b=true
  ·rw [h1.1,zBg h1.2] at h
   have h2:b=c∧s.flatMap (sgn false)=[]:=by simpa using h
   cases s with
   | nil =>exact ⟨by rw [h2.1],h1.1⟩
   | cons x s =>exact absurd (List.flatMap_eq_nil_iff.1 h2.2 x (by simp)) (zJL false x)
  ·rw [zBU h1] at h
   simp at h
theorem zFP {s:List UInt8} (h:s≠[]):eput s≠[45]:=by
 unfold eput
 rw [if_neg h]
 intro h1
 have h2:=zHe h1
 rw [h2.1] at h2
 simp at h2
theorem zFs (s:List UInt8):zBP (eput s)=s:=by
 by_cases h:s=[]
 ·subst h;rfl
 ·unfold zBP
  rw [if_neg (zFP h)]
  unfold eput
  rw [if_neg h]
  exact zDB _ s
def eget (w:List UInt8):List UInt8×Bool:=if eput (zBP w)=w then (zBP w,true) else ([],false)
theorem zCR (s:List UInt8):eget (eput s)=(s,true):=by
 unfold eget
 rw [zFs,if_pos rfl]
theorem zIX:∀ (f:Nat) (w:List UInt8),(erd f w).length≤w.length:=by
 intro f
 induction f with
 | zero =>intro w;simp [erd]
 | succ f ih =>
  intro w
  cases w with
  | nil =>simp [erd]
  | cons c l =>
   have h1:=ih ((c :: l).drop (ahd c l).2)
   have h2:=zDG c l
   show ((ahd c l).1 :: erd f ((c :: l).drop (ahd c l).2)).length≤_
   simp only [List.length_cons,List.length_drop] at *
   omega
theorem zEC (w:List UInt8):(zBP w).length≤w.length:=by
 unfold zBP
 split
 ·simp
 ·exact zIX _ _
theorem zGX (m:Fin 16):48≤(dig m.val).toNat∧(dig m.val).toNat≤102:=by revert m;decide
theorem zIp {a:Bool} {b x:UInt8} (h:x ∈ sgn a b):33≤x.toNat∧x.toNat≤126:=by
 by_cases h1:a=false∧okb b=true
 ·rw [h1.1,zBg h1.2] at h
  have h2:x=b:=by simpa using h
  subst h2
  have:=h1.2
  simp only [okb,decide_eq_true_eq] at this
  omega
 ·rw [zBU h1] at h
  have h3:=zGX ⟨b.toNat / 16,by have:=b.toNat_lt;omega⟩
  have h4:=zGX ⟨b.toNat % 16,by omega⟩
  simp only at h3 h4
  rcases (by simpa using h:x=92∨x=dig (b.toNat / 16)∨x=dig (b.toNat % 16)) with rfl | rfl | rfl
  ·decide
  ·omega
  ·omega
theorem zHc {s:List UInt8} {x:UInt8} (h:x ∈ eput s):33≤x.toNat∧x.toNat≤126:=by
 unfold eput at h
 split at h
 ·have:x=45:=by simpa using h
  subst this
  decide
 ·obtain ⟨b,_,hb⟩:=List.mem_flatMap.1 h
  exact zIp hb
theorem zCG (a:Bool) (b:UInt8):1≤(sgn a b).length∧(sgn a b).length≤3:=by
 by_cases h:a=false∧okb b=true
 ·rw [h.1,zBg h.2];simp
 ·rw [zBU h];simp
theorem zCw (a:Bool) (s:List UInt8):(s.flatMap (sgn a)).length≤3 * s.length:=by
 induction s with
 | nil =>simp
 | cons b s ih =>have:=zCG a b;simp only [List.flatMap_cons,List.length_append,List.length_cons];omega
theorem zBK (s:List UInt8):(eput s).length≤3 * s.length+1:=by
 unfold eput
 split
 ·simp
 ·have:=zCw (decide (s=[45])) s;omega
theorem zHI {a:Bool} {b c:UInt8} {l m:List UInt8} (h:sgn a b++l=sgn a c++m):b=c∧l=m:=by
 have h1:=congrArg rest h
 rw [zDU,zDU] at h1
 have h2:b=c:=(List.cons.inj h1).1
 subst h2
 exact ⟨rfl,List.append_cancel_left h⟩
def allw (w:List UInt8):Bool:=decide (w=[92,50,100])
theorem zHb {s:List UInt8} (h:s≠[]):decide (s=[45])=allw (eput s):=by
 unfold allw
 by_cases h1:s=[45]
 ·subst h1;decide
 ·rw [decide_eq_false h1]
  symm
  refine decide_eq_false ?_
  intro h2
  unfold eput at h2
  rw [if_neg h,decide_eq_false h1] at h2
  have h3:=congrArg rest h2
  rw [zDB] at h3
  exact h1 (h3.trans (by decide))
theorem zHa {w acc:List UInt8} (h45:w≠[45]) (hne:acc≠[]) (h:w=acc.flatMap (sgn (allw w))):eget w=(acc,true):=by
 have h1:decide (acc=[45])=allw w:=by
  by_cases h2:allw w=true
  ·have h3:w=[92,50,100]:=of_decide_eq_true h2
   have h4:=congrArg rest h
   rw [zDB] at h4
   have h5:acc=[45]:=by rw [← h4,h3];decide
   rw [h2,h5];decide
  ·have h2':allw w=false:=by simpa using h2
   rw [h2']
   refine decide_eq_false ?_
   rintro rfl
   rw [h2'] at h
   exact h45 (h.trans (by decide))
 have h2:eput acc=w:=by
  unfold eput
  rw [if_neg hne,h1,← h]
 rw [← h2]
 exact zCR acc
theorem zIW {w acc l:List UInt8} (h45:w≠[45]) (h:w=acc.flatMap (sgn (allw w))++l) (hl:l≠[]) (hno:∀ c m,l≠sgn (allw w) c++m):eget w=([],false):=by
 unfold eget
 refine if_neg ?_
 intro h1
 obtain ⟨s,hs⟩:∃ s,s=zBP w:=⟨_,rfl⟩
 rw [← hs] at h1
 have hne:s≠[]:=by
  rintro rfl
  exact h45 h1.symm
 have hall:=zHb hne
 rw [h1] at hall
 have h2:w=s.flatMap (sgn (allw w)):=by
  rw [← hall]
  unfold eput at h1
  rw [if_neg hne] at h1
  exact h1.symm
 have h3:∀ (acc s:List UInt8),acc.flatMap (sgn (allw w))++l=s.flatMap (sgn (allw w))→False:=by
  intro acc
  induction acc with
  | nil =>
   intro s hs
   cases s with
   | nil =>exact hl (by simpa using hs)
   | cons c s =>exact hno c _ (by simpa using hs)
  | cons b acc ih =>
   intro s hs
   cases s with
   | nil =>
    rw [List.flatMap_cons] at hs
    have:=zCG (allw w) b
    have h4:=congrArg List.length hs
    simp only [List.length_append,List.flatMap_nil,List.length_nil] at h4
    omega
   | cons c s =>
    rw [List.flatMap_cons,List.flatMap_cons,List.append_assoc] at hs
    exact ih s (zHI hs).2
 exact h3 acc s (h.symm.trans h2)
theorem zHZ:eget []=([],false):=by decide
theorem zFO:eget [45]=([],true):=by decide
def itv (all:Bool):Value:=.func (.func (if all then 91 else 92)) #[] #[]
theorem zHi (w:World):Calls Tryz.prog 71 #[.string { data:=#[45] }] w fun e w' =>e=.returned (.func (.func 91) #[] #[])∧w=w':=by
 go_enter Tryz.func71,Tryz.ntmps71
 go_wp2
 go_ret
 exact ⟨rfl,rfl⟩
theorem zAb (l k:List UInt8):((tx l).toList == k)=decide (l=k):=by rw [zBD,Bool.eq_iff_iff];simp
theorem zHj (l:List UInt8) (hs:l≠[45]) (w:World):Calls Tryz.prog 71 #[.string (tx l)] w fun e w' =>e=.returned (.func (.func 92) #[] #[])∧w=w':=by
 have h1:((tx l).toList == [45])=false:=by rw [zAb,decide_eq_false hs]
 go_enter Tryz.func71,Tryz.ntmps71
 go_wp2
 go_ret
 exact ⟨rfl,rfl⟩
theorem zHH (b:UInt8) (w:World):Calls Tryz.prog 91 #[.int .u8 (b.toNat:Int)] w fun e w' =>e=.returned (.bool false)∧w=w':=by
 go_enter Tryz.func91,Tryz.ntmps91
 go_wp2
 go_ret
 exact ⟨rfl,rfl⟩
theorem zES (b:UInt8) (w:World):Calls Tryz.prog 92 #[.int .u8 (b.toNat:Int)] w fun e w' =>e=.returned (.bool (okb b))∧w=w':=by
 have hb:=b.toNat_lt
 unfold okb
 generalize b.toNat=n at *
 by_cases h:33≤n∧n≤126∧n≠92
 ·rw [decide_eq_true h]
  obtain ⟨h1,h2,h3⟩:=h
  have k3:((n:Int) == 92)=false:=by simp;omega
  have k4:((n:Int) != 92)=true:=by simp;omega
  go_enter Tryz.func92,Tryz.ntmps92
  go_wp2
  go_ret
  exact ⟨rfl,rfl⟩
 ·rw [decide_eq_false h]
  by_cases h1:33≤n
  ·by_cases h2:n≤126
   ·obtain rfl:n=92:=by omega
    go_enter Tryz.func92,Tryz.ntmps92
    go_wp2
    go_ret
    exact ⟨rfl,rfl⟩
   ·go_enter Tryz.func92,Tryz.ntmps92
    go_wp2
    go_ret
    exact ⟨rfl,rfl⟩
  ·go_enter Tryz.func92,Tryz.ntmps92
   go_wp2
   go_ret
   exact ⟨rfl,rfl⟩
theorem zIV (m:Nat) (hm:m<16) (hp:m<({ data:=#[48,49,50,51,52,53,54,55,56,57,97,98,99,100,101,102] }:ByteArray).size) :
  Value.int .u8 (((({ data:=#[48,49,50,51,52,53,54,55,56,57,97,98,99,100,101,102] }:ByteArray)[m]'hp).toNat:Nat):Int)=bv (dig m):=by
 have h:∀ k:Fin 16,((({ data:=#[48,49,50,51,52,53,54,55,56,57,97,98,99,100,101,102] }:ByteArray)[k.val]'(by have:=k.isLt;exact this)).toNat:Nat)=(dig k.val).toNat:=by decide
 exact congrArg (fun x:Nat =>Value.int .u8 (x:Int)) (h ⟨m,hm⟩)
theorem zBO (z:Int) (m:Nat) (hz:z=(m:Int)) (hm:m<16) (v:World) (B:Result Value) (hp:∀ _:0≤z∧z<16,z.toNat<({ data:=#[48,49,50,51,52,53,54,55,56,57,97,98,99,100,101,102] }:ByteArray).size) :
  ((if h:0≤z∧z<16 then Result.ok (Value.int .u8 (((({ data:=#[48,49,50,51,52,53,54,55,56,57,97,98,99,100,101,102] }:ByteArray)[z.toNat]'(hp h)).toNat:Nat):Int)) v else B).andThen fun a w' =>Result.ok (Next.value a) w')=Result.ok (Next.value (bv (dig m))) v:=by
 subst hz
 rw [dif_pos ⟨by omega,by omega⟩]
 have h1:=zIV m hm (by simp [ByteArray.size];omega)
 simp only [Int.toNat_natCast,h1,Result.andThen]
theorem zCV (W:World) (e:TypeId) (x y z:UInt8):zAE (W.alloc (.cells #[bv x,bv y,bv z] e)) (W.heap.size+1) 1 (some ⟨W.heap.size,0,none⟩) 3 ([x,y,z].map bv) :=
 ⟨rfl,fun _ =>⟨_,rfl,by simp,fun j u hu =>by
  match j with
  | 0 =>
   have hu':bv x=u:=by simpa using hu
   subst hu'
   simp [Addr.add]
  | 1 =>
   have hu':bv y=u:=by simpa using hu
   subst hu'
   simp [Addr.add]
  | 2 =>
   have hu':bv z=u:=by simpa using hu
   subst hu'
   simp [Addr.add]
  | j+3 =>simp at hu⟩⟩
theorem zIN:(Tryz.prog.info? 5).map (fun i =>(i.zero,i.size,i.bytes))=some (some (.int .u8 0),1,1):=by kernel_rfl
def Bx (w:World) (base bx G:Nat) (acc:List UInt8):Prop :=
 base≤bx∧∃ v,w.heap[bx]? = some (.cells #[v] 59 (0,0))∧w.ownsRow base 5 1 v acc.length (acc.map bv)∧∀ g,v.ownBlock=some g→g≠G
theorem Bx.below {w w':World} {base bx G:Nat} {acc:List UInt8} (h:Bx w base bx G acc) (hb:Below w.heap.size w w'):Bx w' base bx G acc:=by
 obtain ⟨h0,v,h1,h2,h3⟩:=h
 exact ⟨h0,v,(hb.block bx (Array.getElem?_eq_some_iff.1 h1).1).trans h1,zAU h2 hb,h3⟩
theorem Bx.lt {w:World} {base bx G:Nat} {acc:List UInt8} (h:Bx w base bx G acc):bx<w.heap.size:=by
 obtain ⟨h0,v,h1,h2,h3⟩:=h
 exact (Array.getElem?_eq_some_iff.1 h1).1
theorem zHo (base bx G:Nat) (acc xs:List UInt8) (A:Option Addr) (n c:Nat) (hn:n≤10) (hacc:acc.length≤1000000) (hG:G≠bx) (w:World) (hGl:G<w.heap.size) (hB:Bx w base bx G acc) (hA:A=none→c=0) (hr:zAE w w.heap.size 1 A n (xs.map bv)) :
  Calls Tryz.prog 72 #[.slice A n c,.pointer (some ⟨bx,0,none⟩)] w fun e w' =>e=.returned (.tuple #[])∧Bx w' base bx G (acc++xs)∧Turn (fun k =>base≤k∧k≠G) w w':=by
 obtain ⟨i0,hi,hz0,hz1,hz2⟩:=info_parts zIN
 have hln:xs.length=n:=by have:=hr.1;simpa using this
 obtain ⟨h0,v,h1,h2,h3⟩:=hB
 have q0:=zAA (i:=0) h1 rfl
 have hlt:=(Array.getElem?_eq_some_iff.1 h1).1
 have hne:v.ownBlock≠some bx:=zBB h2 h1 (by decide)
 have H1:=yh h1
 have H2:=yh h2
 have H3:=yh h3
 have HNE:=yh hne
 have HLN:=yh hln
 have HR:=yh hr
 have hbase:base≤w.heap.size:=by omega
 clear h1 h2 h3 hne hln hr
 go_enter Tryz.func72,Tryz.ntmps72
 go_wp2_with (at_builtin;refine zBE _ rfl (.tmp 3) (.tmp 4) 59 rfl base 5 i0 _ 1 1 Tryz.underlying59 hi hz0 hz1 hz2 rfl (by decide) _ acc.length _ rfl H2.out A n c w.heap.size (xs.map bv) rfl hA HR.out (zJB xs) (by unfold maxLen;omega) (by omega) hbase ?_;intro v1 w1 ho1 hg1 hv1;obtain ⟨A1,c1,rfl,_⟩:=zAY ho1;have hb1:w1.heap[bx]? = some (.cells #[v] 59 (0,0)):=(hg1.block bx hlt (fun e =>HNE.out e.symm)).trans H1.out;have p0:=zAA (i:=0) hb1 rfl;have y0:=zAC (i:=0) hb1;have HO1:=yh ho1;have HG1:Hid (w.grownBy w1 v.ownBlock):=hg1;have HV1:Hid ((Value.slice A1 (acc.length+n) c1).ownBlock=v.ownBlock∨(Value.slice A1 (acc.length+n) c1).ownBlock=some w.heap.size):=hv1;have HB1:=yh hb1;clear ho1 hg1 hv1 hb1)
 go_end0
 have hne1:=zBB HO1.out HB1.out (by decide)
 refine ⟨rfl,⟨h0,_,zAD HB1.out 0 _,?_,fun g hg e =>?_⟩,?_⟩
 ·have:=zAf HO1.out (w':=w1.setCell ⟨bx,0,none⟩ (.slice A1 (acc.length+n) c1)) (fun g hg =>Below.heap_setCell _ _ _ g (fun e =>hne1 (by rw [hg];exact congrArg some e)))
  rw [List.map_append,List.length_append,HLN.out]
  exact this
 ·subst e
  rcases HV1.out with h | h
  ·exact H3.out g (h.symm.trans hg) rfl
  ·rw [h] at hg
   have:w.heap.size=g:=Option.some.inj hg
   omega
 ·refine ((Turn.refl _ w).grown HG1.out (fun i e hi =>?_)).setCell bx 0 _ ⟨h0,fun e =>hG e.symm⟩
  exact ⟨zAP H2.out i e,H3.out i e⟩
end Go.Proofs.YtgoklhoaedceaaaGreatDoor
