/- Texts of one proof. -/
import Derived.ChangeMaps5
import Derived.Laws.Strings2
import Derived.Laws.Strings3
import Derived.Lib.AppendIntMem
import Derived.Lib.Join
import Derived.RegionTactic
import Derived.SliceStrings
import Derived.Test.YtgoklhoaedceaaaGreatDoorSh
import Derived.Test.YtgoklhoaedceaaaGreatDoorMx2
set_option maxRecDepth 100000
set_option maxHeartbeats 8000000
namespace Go.Proofs.YtgoklhoaedceaaaGreatDoor
open Go.RowKit
theorem Laid.below {w w':World} (h:Laid w) (hb:Below w.heap.size w w'):Laid w':=fun i hi =>by
 have h1:=h i hi
 have h2:0<w.heap.size:=by
  rcases Nat.lt_or_ge 0 w.heap.size with hlt | hge
  ·exact hlt
  ·rw [World.cell?,Array.getElem?_eq_none hge] at h1
   cases h1
 exact (hb.cell (p:=⟨0,i,none⟩) h2).trans h1
theorem PRow.below {w w':World} {B:Nat} {v:Value} {bs:List UInt8} (h:PRow w B v bs) (hb:Below B w w'):PRow w' B v bs:=by
 obtain ⟨A,n,c,rfl,h1,h2,hr⟩:=h
 exact ⟨A,n,c,rfl,h1,h2,hr.below hb⟩
theorem PRow.more {w:World} {B B':Nat} {v:Value} {bs:List UInt8} (h:PRow w B v bs) (hB:B≤B'):PRow w B' v bs:=by
 obtain ⟨A,n,c,rfl,h1,h2,hr⟩:=h
 exact ⟨A,n,c,rfl,h1,h2,hr.more hB⟩
theorem zLD (W:World) (v:Value) (bs:List UInt8) (hl:Laid W) (hr:PRow W W.heap.size v bs) :
  Calls Tryz.prog 32 #[.slice (some ⟨W.heap.size,0,none⟩) 1 1] (W.alloc (.cells #[v] 59)) fun e w' =>e=.returned (wv (crc bs))∧W.alloc (.cells #[v] 59)=w':=by
 have hb:Below W.heap.size W (W.alloc (.cells #[v] 59)):=(Below.refl _ W).alloc (Nat.le_refl _) _
 have h:=zLC (some ⟨W.heap.size,0,none⟩) 1 1 [v] [bs] (by omega) (W.alloc (.cells #[v] 59)) (hl.below hb)
  ⟨rfl,fun _ =>⟨_,rfl,by simp,fun j u hu =>by
   cases j with
   | zero =>
    have hu':v=u:=by simpa using hu
    subst hu'
    simp [Addr.add]
   | succ j =>simp at hu⟩⟩
  ⟨rfl,fun i u hu =>by
   cases i with
   | zero =>
    have hu':v=u:=by simpa using hu
    subst hu'
    exact ⟨bs,rfl,(hr.below hb).more (by simp)⟩
   | succ i =>simp at hu⟩
 simpa using h
theorem zDM.below {w w':World} {B:Nat} {vs:List Value} {ps:List (List UInt8)} (h:zDM w B vs ps) (hb:Below B w w'):zDM w' B vs ps :=
 ⟨h.1,fun i v hv =>by
  obtain ⟨bs,h1,h2⟩:=h.2 i v hv
  exact ⟨bs,h1,h2.below hb⟩⟩
theorem zDM.more {w:World} {B B':Nat} {vs:List Value} {ps:List (List UInt8)} (h:zDM w B vs ps) (hB:B≤B'):zDM w B' vs ps :=
 ⟨h.1,fun i v hv =>by
  obtain ⟨bs,h1,h2⟩:=h.2 i v hv
  exact ⟨bs,h1,h2.more hB⟩⟩
theorem zKC (W:World) (bs:List UInt8) (cap:Nat) (fr:Nat×Nat) (hb:bs.length≤1073741824) (hc:bs.length≤cap) :
  PRow (W.alloc (.cells (bytesRow (tx bs) cap) 5 fr)) (W.heap.size+1) (.slice (some ⟨W.heap.size,0,none⟩) bs.length cap) bs :=
 ⟨_,_,_,rfl,hc,hb,by simp,fun _ =>⟨_,rfl,by simp,fun j u hu =>by
  have h0:Addr.add ⟨W.heap.size,0,none⟩ j=⟨W.heap.size,j,none⟩:=by
   unfold Addr.add
   split
   ·rename_i h;rw [h]
   ·simp
  have hj:j<bs.length:=by
   have:=(List.getElem?_eq_some_iff.1 hu).1
   simpa using this
  rw [h0]
  simp only [World.cell?,World.alloc,Array.getElem?_push_size]
  rw [bytesRow_at (tx bs) cap j (by simpa [tx] using hj)]
  rw [List.getElem?_map,List.getElem?_eq_getElem hj] at hu
  have hu':bv bs[j]=u:=by simpa using hu
  rw [← hu']
  rfl⟩⟩
theorem zKD (bs:List UInt8) (hb:bs.length≤1073741824) (W:World) (hl:Laid W) (X:World)
  (hX:X=(W.drew.alloc (.cells (bytesRow (tx bs) (grownCap W (tx bs).size 0 5)) 5 ((bytesRow (tx bs) (grownCap W (tx bs).size 0 5)).size,(bytesRow (tx bs) (grownCap W (tx bs).size 0 5)).size+1))).alloc (.cells #[.slice (some ⟨W.heap.size,0,none⟩) (tx bs).size (grownCap W (tx bs).size 0 5)] 59)) :
  Calls Tryz.prog 32 #[.slice (some ⟨W.heap.size+1,0,none⟩) 1 1] X fun e w' =>e=.returned (wv (crc bs))∧X=w':=by
 have hge:=grownCap_ge W (tx bs).size 0 5
 generalize grownCap W (tx bs).size 0 5=cap at hge hX
 generalize ((bytesRow (tx bs) cap).size,(bytesRow (tx bs) cap).size+1)=fr at hX
 subst hX
 rw [zAK] at hge ⊢
 have hrow:=zKC W.drew bs cap fr hb hge
 have hld:Laid (W.drew.alloc (.cells (bytesRow (tx bs) cap) 5 fr)):=hl.below ((Below.refl _ W).drew.alloc (by simp) _)
 have h:=zLD (W.drew.alloc (.cells (bytesRow (tx bs) cap) 5 fr)) (.slice (some ⟨W.heap.size,0,none⟩) bs.length cap) bs hld (hrow.more (by simp))
 have e:(W.drew.alloc (.cells (bytesRow (tx bs) cap) 5 fr)).heap.size=W.heap.size+1:=by simp
 rw [e] at h
 exact h
theorem zGt {bs:List UInt8} {s:ByteArray} (hs:s=tx bs) (k:Nat) (h:k<s.size):∃ x:UInt8,x.toNat=s[k].toNat∧bs.drop k=x :: bs.drop (k+1):=by
 subst hs
 have hk:k<bs.length:=by rw [zAK] at h;exact h
 exact ⟨bs[k],rfl,List.drop_eq_getElem_cons hk⟩
theorem zEy (r:W32) (x:UInt8) (k:Nat):(r ^^^ (x32 x >>> k)).getLsbD 0=(((r.toNat:Int) % 2) != ((x.toNat:Int) / 2 ^ k % 2)):=by
 have h1:r.getLsbD 0=decide (r.toNat % 2=1):=by rw [BitVec.getLsbD,Nat.testBit_zero]
 have h2:(x32 x >>> k).getLsbD 0=decide (x.toNat / 2 ^ k % 2=1):=by
  rw [BitVec.getLsbD_ushiftRight,BitVec.getLsbD,zEB,Nat.add_zero,Nat.testBit_eq_decide_div_mod_eq]
 have e1:((x.toNat:Int) / 2 ^ k % 2)=((x.toNat / 2 ^ k % 2:Nat):Int):=by simp
 have e2:((r.toNat:Int) % 2)=((r.toNat % 2:Nat):Int):=by simp
 rw [BitVec.getLsbD_xor,h1,h2,e1,e2]
 generalize x.toNat / 2 ^ k=q
 obtain h | h:r.toNat % 2=0∨r.toNat % 2=1:=by omega
 all_goals obtain g | g:q % 2=0∨q % 2=1:=by omega
 all_goals rw [h,g];rfl
theorem zJM {s0 r:W32} {x:UInt8} {k:Nat} (hk:k<8) (h:stn (8 - k) (r ^^^ (x32 x >>> k))=up s0 x) (hu:(((r.toNat:Int) % 2) != ((x.toNat:Int) / 2 ^ k % 2))=false) :
  stn (8 - (k+1)) ((r >>> 1) ^^^ (x32 x >>> (k+1)))=up s0 x:=by
 rw [← zEy] at hu
 rw [← h,show 8 - k=(8 - (k+1))+1 by omega,stn,st,if_neg (by rw [hu];decide),BitVec.ushiftRight_xor_distrib,BitVec.shiftRight_add]
theorem zHE {s0 r:W32} {x:UInt8} {k:Nat} (hk:k<8) (h:stn (8 - k) (r ^^^ (x32 x >>> k))=up s0 x) (hu:(((r.toNat:Int) % 2) != ((x.toNat:Int) / 2 ^ k % 2))=true) :
  stn (8 - (k+1)) ((r >>> 1 ^^^ poly) ^^^ (x32 x >>> (k+1)))=up s0 x:=by
 rw [← zEy] at hu
 rw [← h,show 8 - k=(8 - (k+1))+1 by omega,stn,st,if_pos hu,BitVec.ushiftRight_xor_distrib,BitVec.shiftRight_add]
 congr 1
 ac_rfl
theorem zKA {s0 r:W32} {x:UInt8} (h:stn (8 - 8) (r ^^^ (x32 x >>> 8))=up s0 x):r=up s0 x:=by
 have e:x32 x >>> 8=0#32:=by
  apply BitVec.eq_of_toNat_eq
  rw [BitVec.toNat_ushiftRight,zEB,Nat.shiftRight_eq_div_pow]
  have:=x.toNat_lt
  simp
  omega
 rw [e] at h
 simpa [stn] using h
theorem zLH (r:W32):wv (r >>> 1)=.int .u32 ((r.toNat:Int) / 2):=by
 rw [wv,BitVec.toNat_ushiftRight,Nat.shiftRight_eq_div_pow]
 simp
theorem zLI (r:W32):wv (r >>> 1 ^^^ poly)=.int .u32 (bits .xor .u32 ((r.toNat:Int) / 2) 3988292384):=by
 have hr:=r.isLt
 have e:((r.toNat:Int) / 2)=((r.toNat / 2:Nat):Int):=by simp
 rw [e,wv,BitVec.toNat_xor,BitVec.toNat_ushiftRight,Nat.shiftRight_eq_div_pow]
 exact congrArg (Value.int .u32) (u32_xor_nat (r.toNat / 2) 3988292384 (by omega) (by omega)).symm
def KRel (s0:W32) (x:UInt8) (w:World) (v idx:Value) (wr:World):Prop :=
 ∃ (k:Nat) (r:W32),k≤8∧idx=.int .u64 (k:Int)∧v=wv r∧stn (8 - k) (r ^^^ (x32 x >>> k))=up s0 x∧w=wr
def JRel (bs:List UInt8) (w:World) (v idx:Value) (wr:World):Prop:=∃ j:Nat,j≤bs.length∧idx=.int .i64 (j:Int)∧v=wv (ups ones (bs.take j))∧w=wr
theorem zHy (bs:List UInt8) (hn:bs.length≤1073741824) (w:World) :
  Calls Tryz.prog 50 #[.string (tx bs)] w fun e w' =>e=.returned (wv (crc bs))∧w=w':=by
 obtain ⟨s,hs⟩:∃ s,s=tx bs:=⟨_,rfl⟩
 have hsz:s.size=bs.length:=by rw [hs,zAK]
 rw [← hs]
 have hn':s.size≤1073741824:=by omega
 have HS:=yh hs
 have HSZ:=yh hsz
 clear hs hsz hn
 go_enter Tryz.func50,Tryz.ntmps50
 go_wp2
 go_loopw [3,4] (fun v idx wr =>JRel bs w v idx wr) (fun v idx wr =>s.size - (intOf idx).toNat)
 case atStart =>exact ⟨0,by omega,rfl,rfl,rfl⟩
 case round =>
  obtain ⟨i,hi,rfl,rfl,rfl⟩:=hrel
  rw [← HSZ.out] at hi
  by_cases hlt:i<s.size
  ·obtain ⟨x,hx,hd⟩:=zGt HS.out i hlt
   obtain ⟨v,hv⟩:∃ v,s[i].toNat=v:=⟨_,rfl⟩
   have hv256:v<256:=by rw [← hv];exact s[i].toNat_lt
   obtain ⟨s0,hs0⟩:∃ s0,s0=ups ones (bs.take i):=⟨_,rfl⟩
   rw [← hs0]
   have HS0:=yh hs0
   have HX:=yh (hx.trans hv)
   have HD:=yh hd
   clear hs0 hx hd
   go_wp2
   go_loopw [3,5] (fun v idx wr =>KRel s0 x w v idx wr) (fun v idx wr =>8 - (intOf idx).toNat)
   case atStart =>exact ⟨0,s0,by omega,rfl,rfl,rfl,rfl⟩
   case round =>
    obtain ⟨k,r,hk,rfl,rfl,hst,rfl⟩:=hrel
    have HST:=yh hst
    clear hst
    by_cases hk8:k<8
    ·have hv:wv r=.int .u32 (r.toNat:Int):=rfl
     obtain ⟨c,hc⟩:∃ c,c=r.toNat:=⟨_,rfl⟩
     rw [hv,← hc]
     have hc32:c<4294967296:=by rw [hc];exact r.isLt
     have HC:=yh hc
     clear hv hc
     go_wp2
     ·rename_i h1 h2
      rw [HC.out,← HX.out] at h2
      exact ⟨⟨k+1,_,by omega,by go_num,by rw [HC.out,← zLI],zHE hk8 HST.out h2,rfl⟩,by simp [intOf];omega⟩
     ·rename_i h1 h2
      rw [HC.out,← HX.out] at h2
      exact ⟨⟨k+1,_,by omega,by go_num,by rw [HC.out,← zLH],zJM hk8 HST.out h2,rfl⟩,by simp [intOf];omega⟩
    ·obtain rfl:k=8:=by omega
     have he:=zKA HST.out
     have e1:up s0 x=ups ones (bs.take (i+1)):=by
      have hb:bs[i]? = some x:=by
       have:=congrArg List.head? HD.out
       simpa using this
      rw [List.take_add_one,hb,HS0.out,zDh];rfl
     rw [e1] at he
     rw [he]
     clear hk hk8 e1 he
     generalize hq:wv (ups ones (bs.take (i+1)))=q
     have HQ:=yh hq
     clear hq
     go_wp2
     exact ⟨⟨i+1,by have:=HSZ.out;omega,by go_num,HQ.out.symm,rfl⟩,by simp [intOf];omega⟩
  ·obtain rfl:i=s.size:=by omega
   have hall:bs.take s.size=bs:=List.take_of_length_le (by rw [HSZ.out];omega)
   rw [hall]
   have hv:wv (ups ones bs)=.int .u32 ((ups ones bs).toNat:Int):=rfl
   obtain ⟨a,ha⟩:∃ a,a=(ups ones bs).toNat:=⟨_,rfl⟩
   have ha32:a<4294967296:=by rw [ha];exact (ups ones bs).isLt
   have k1:IntKind.u32.wrap (4294967295 - (a:Int))=((4294967295 - a:Nat):Int):=by rw [IntKind.wrap_u32'];omega
   have hcr:wv (crc bs)=.int .u32 ((4294967295 - a:Nat):Int):=by rw [wv,crc,BitVec.toNat_not,ha]
   obtain ⟨z,hz⟩:∃ z,z=4294967295 - a:=⟨_,rfl⟩
   rw [← hz] at k1 hcr
   rw [hv,← ha]
   have HCR:=yh hcr
   clear hv ha hz hcr hall hi hlt
   go_wp2
   go_ret
   exact ⟨by rw [HCR.out];rfl,rfl⟩
open Go.ChangeShapes Go.WideShapes Go.ChangeAt Go.RowKit
theorem zJP (s:ByteArray):tx s.data.toList=s:=by
 cases s
 simp [tx]
theorem zDa {H:Type} {enc:TypeId×Value→H} {P:Program} {W:World} {t:TypeId} {v:Value} {d:DataW H} {ps:List MemPlace} {r:Reach} {b0:Nat} (ht:P.underlying t=some .string)
  (hval:Value.okWide P W r b0 t v) (hd:DataW.Trod enc P W 0 (fun _ =>true) true t v d ps):∃ bs:List UInt8,v=.string (tx bs)∧ps=[]:=by
 obtain ⟨s,rfl,_,hps,_⟩:=ChangeMaps.open_string ht hval hd
 exact ⟨s.data.toList,by rw [zJP],hps⟩
theorem zCi {n:Nat} (h:n<top):qv (BitVec.ofNat 64 n)=.int .u64 (n:Int):=by
 unfold qv
 rw [BitVec.toNat_ofNat,Nat.mod_eq_of_lt (show n<2 ^ 64 from h)]
theorem zHF (l:List UInt8) (a b:Nat):(tx l).extract a b=tx ((l.take b).drop a):=by
 apply ByteArray.ext
 simp [tx,ByteArray.data_extract]
 rw [List.drop_take]
theorem zGM (a b:List UInt8):Lib.join ([tx a,tx b].map (·.data.toList)) ({ data:=#[32] }:ByteArray).data.toList=a++32 :: b:=by
 simp [Lib.join,List.intercalate,tx]
theorem zFP (a b:List UInt8) (ha:a.length≤1000) (hb:b.length≤1000) (W:World) :
  Calls Tryz.prog 28 #[.slice (some ⟨W.heap.size,0,none⟩) 2 2] (W.alloc (.cells #[.string (tx a),.string (tx b)] 9)) fun e w' =>e=.returned (.string (tx (a++32 :: b)))∧Below W.heap.size W w':=by
 have h2:=Tryz.strings_Join W.heap.size 0 2 [tx a,tx b] { data:=#[32] } (W.alloc (.cells #[.string (tx a),.string (tx b)] 9)) (fun j x hx =>by
  simp only [World.cell?,World.alloc,Array.getElem?_push_size,Nat.zero_add]
  match j,hx with
  | 0,hx =>simpa using hx
  | 1,hx =>simpa using hx) (by simp) (by simp) (by simp) (by rw [zGM];simp;omega)
 rw [zGM] at h2
 have H:=yh h2
 have hb0:=yh ((Below.refl _ W).alloc (Nat.le_refl _) (.cells #[.string (tx a),.string (tx b)] 9))
 clear h2
 generalize tx a=sa at *
 generalize tx b=sb at *
 go_enter Tryz.func28,Tryz.ntmps28
 go_wp2_with fail
 refine H.out.mono ?_
 rintro e w3 ⟨rfl,hb⟩
 have hb1:=hb0.out.trans (hb.mono (by simp))
 clear hb
 go_wp2
 go_ret
 exact ⟨rfl,hb1⟩
def sum8 (l:List UInt8):List UInt8:=(hexl (crc l).toNat 16).drop 8
theorem zCC (l:List UInt8):(sum8 l).length=8:=by unfold sum8;rw [List.length_drop,zAr]
def zAP (l:List UInt8):List UInt8:=(l++([115,117,109]++32 :: sum8 l))++[10]
theorem zBj (l:List UInt8):(zAP l).length=l.length+13:=by unfold zAP;simp [zCC]
theorem zLO (z:Nat) (hz:z<4294967296) (W:World):Calls Tryz.prog 31 #[.int .u64 (z:Int)] W fun e w' =>e=.returned (.string (tx (hexl z 16)))∧Below W.heap.size W w':=by
 have h:=zFD (BitVec.ofNat 64 z) W
 rw [zCi (show z<top by unfold top;omega),BitVec.toNat_ofNat,Nat.mod_eq_of_lt (show z<2 ^ 64 by omega)] at h
 exact h
theorem zKr (z:Nat) (hz:z<4294967296) (W:World):Calls Tryz.prog 49 #[.int .u64 (z:Int)] W fun e w' =>e=.returned (.string (tx (hexl z 16)))∧W=w':=by
 have h:=zEt (BitVec.ofNat 64 z) W
 rw [zCi (show z<top by unfold top;omega),BitVec.toNat_ofNat,Nat.mod_eq_of_lt (show z<2 ^ 64 by omega)] at h
 exact h
theorem zJK (z:Nat) (W:World):(Instr.slice 9 (.string (tx (hexl z 16))) (some (.int .i64 8)) none none).run Tryz.prog W=.ok (.string (tx ((hexl z 16).drop 8))) W:=by
 have hsz:(tx (hexl z 16)).size=16:=by rw [zAK,zAr]
 have h1:=run_slice_string_from_if (P:=Tryz.prog) W 9 (tx (hexl z 16)) .i64 8 Tryz.underlying9
 rw [if_pos (by rw [hsz];omega),hsz,zHF,List.take_of_length_le (by rw [zAr];exact Nat.le_refl _)] at h1
 exact h1
theorem zDd (l:List UInt8) (hn:l.length≤100000000) (w:World) (hl:Laid w) :
  Calls Tryz.prog 12 #[.string (tx l)] w fun e w' =>e=.returned (.string (tx (zAP l)))∧Below w.heap.size w w':=by
 have HTX:Hid (∀ W X,Below w.heap.size w W→X=(W.drew.alloc (.cells (bytesRow (tx l) (grownCap W (tx l).size 0 5)) 5 ((bytesRow (tx l) (grownCap W (tx l).size 0 5)).size,(bytesRow (tx l) (grownCap W (tx l).size 0 5)).size+1))).alloc (.cells #[.slice (some ⟨W.heap.size,0,none⟩) (tx l).size (grownCap W (tx l).size 0 5)] 59) →
   Calls Tryz.prog 32 #[.slice (some ⟨W.heap.size+1,0,none⟩) 1 1] X fun e w' =>e=.returned (wv (crc l))∧X=w'):=fun W X hb hX =>zKD l (by omega) W (hl.below hb) X hX
 have hzl:=(crc l).isLt
 have hv:wv (crc l)=.int .u32 ((crc l).toNat:Int):=rfl
 have HJ:=yh (fun W =>zFP [115,117,109] (sum8 l) (by simp) (by rw [zCC];omega) W)
 have HA1:Hid (∀ W:World,(Op.stringOp .add (tx l) (tx ([115,117,109]++32 :: sum8 l))).run Tryz.prog W=.ok (.string (tx (l++([115,117,109]++32 :: sum8 l)))) W):=fun W =>zAc W _ _ (by simp [zCC];omega)
 have HA2:Hid (∀ W:World,(Op.stringOp .add (tx (l++([115,117,109]++32 :: sum8 l))) { data:=#[10] }).run Tryz.prog W=.ok (.string (tx (zAP l))) W):=fun W =>zAc W _ [10] (by simp [zCC];omega)
 rw [hv] at HTX
 obtain ⟨z,hz⟩:∃ z,z=(crc l).toNat:=⟨_,rfl⟩
 have hs8:tx (sum8 l)=tx ((hexl z 16).drop 8):=by rw [hz];rfl
 rw [← hz] at HTX hzl
 have HX:=yh (fun W =>zLO z (by omega) W)
 have HS8:=yh (fun W =>zJK z W)
 have hxs:(tx (hexl z 16)).size=16:=by rw [zAK,zAr]
 have hw:IntKind.u64.wrap (z:Int)=(z:Int):=zBv z (by omega)
 rw [← hs8] at HS8
 generalize tx (hexl z 16)=hx at *
 generalize tx (sum8 l)=h8 at *
 generalize tx (l++([115,117,109]++32 :: sum8 l))=q1 at *
 generalize tx (zAP l)=q2 at *
 generalize tx ([115,117,109]++32 :: sum8 l)=j1 at *
 generalize tx l=s at *
 have hcs:=fun (W:World) =>run_bytes_of_string (P:=Tryz.prog) W 9 59 5 s Tryz.underlying9 Tryz.underlying59 Tryz.underlying5
 have HS:=HS8.out
 have A1:=HA1.out
 have A2:=HA2.out
 clear hz hs8 hv hzl
 go_enter Tryz.func12,Tryz.ntmps12
 go_wp2_with fail
 refine (HTX.out _ _ (Below.refl _ _) rfl).mono ?_
 rintro e w1 ⟨rfl,rfl⟩
 go_wp2_with fail
 refine (HX.out _).mono ?_
 rintro e w2 ⟨rfl,hb2⟩
 go_wp2_with fail
 refine (HJ.out _).mono ?_
 rintro e w3 ⟨rfl,hb3⟩
 go_wp2
 go_ret
 exact ⟨rfl,(((((Below.refl _ w).alloc (Nat.le_refl _) _).alloc (by simp) _).drew).trans (hb2.mono (by simp;omega))).trans (hb3.mono (by have:=hb2.size;simp at this;omega))⟩
theorem zEO (l:List UInt8) (hn:l.length≤100000000) (w:World) :
  Calls Tryz.prog 24 #[.string (tx l)] w fun e w' =>e=.returned (.string (tx (zAP l)))∧w=w':=by
 have HR:=yh (fun W =>zHy l (by omega) W)
 have hzl:=(crc l).isLt
 have hv:wv (crc l)=.int .u32 ((crc l).toNat:Int):=rfl
 have HA0:Hid (∀ W:World,(Op.stringOp .add (tx l) { data:=#[115,117,109,32] }).run Tryz.prog W=.ok (.string (tx (l++[115,117,109,32]))) W):=fun W =>zAc W _ [115,117,109,32] (by simp;omega)
 have HA1:Hid (∀ W:World,(Op.stringOp .add (tx (l++[115,117,109,32])) (tx (sum8 l))).run Tryz.prog W=.ok (.string (tx (l++[115,117,109,32]++sum8 l))) W):=fun W =>zAc W _ _ (by simp [zCC];omega)
 have HA2:Hid (∀ W:World,(Op.stringOp .add (tx (l++[115,117,109,32]++sum8 l)) { data:=#[10] }).run Tryz.prog W=.ok (.string (tx (zAP l))) W):=fun W =>by
  have h:=zAc (P:=Tryz.prog) W (l++[115,117,109,32]++sum8 l) [10] (by simp [zCC];omega)
  rw [show l++[115,117,109,32]++sum8 l++[10]=zAP l by unfold zAP;simp] at h
  exact h
 rw [hv] at HR
 obtain ⟨z,hz⟩:∃ z,z=(crc l).toNat:=⟨_,rfl⟩
 have hs8:tx (sum8 l)=tx ((hexl z 16).drop 8):=by rw [hz];rfl
 rw [← hz] at HR hzl
 have HX:=yh (fun W =>zKr z (by omega) W)
 have HS8:=yh (fun W =>zJK z W)
 have hw:IntKind.u64.wrap (z:Int)=(z:Int):=zBv z (by omega)
 rw [← hs8] at HS8
 generalize tx (hexl z 16)=hx at *
 generalize tx (l++[115,117,109,32]++sum8 l)=q1 at *
 generalize tx (l++[115,117,109,32])=q0 at *
 generalize tx (zAP l)=q2 at *
 generalize tx (sum8 l)=h8 at *
 generalize tx l=s at *
 have HS:=HS8.out
 have A0:=HA0.out
 have A1:=HA1.out
 have A2:=HA2.out
 clear hz hs8 hv hzl
 go_enter Tryz.func24,Tryz.ntmps24
 go_wp2_with fail
 refine (HR.out _).mono ?_
 rintro e w1 ⟨rfl,rfl⟩
 go_wp2_with fail
 refine (HX.out _).mono ?_
 rintro e w2 ⟨rfl,rfl⟩
 go_wp2
 go_ret
 exact ⟨rfl,rfl⟩
open Go.Sort Go.RowKit
def zAl (w:World):Prop:=Lib.TabIs Tryz.prog w "internal/strconv.uint64pow10" .u64 Lib.pow10Tab
theorem zEg (w:World) (k:Nat) (os:Array Obj):Below w.heap.size w (grow (w.drewN k) os) :=
 ⟨rfl,rfl,rfl,by show w.heap.size≤(w.heap++os).size;simp,fun b hb =>Lib.heap_grow_old w k os b hb⟩
theorem zJm (u:Nat) (hu64:u<18446744073709551616) (w:World) (htab:zAl w) :
  Calls Tryz.prog 73 #[.int .u64 (u:Int),.int .i64 10] w fun e w' =>e=.returned (.string (tx (Lib.decDigits u)))∧Below w.heap.size w w':=by
 by_cases hs:u<100
 ·have HSM:=yh (fun W =>Tryz.internal_strconv_small u hs W)
  have hw:IntKind.i64.wrap (u:Int)=(u:Int):=by rw [IntKind.wrap_i64];omega
  have hui:(u:Int)<100:=by omega
  go_enter Tryz.func73,Tryz.ntmps73
  go_wp2_with fail
  refine (HSM.out _).mono ?_
  rintro e w1 ⟨rfl,rfl⟩
  go_wp2
  go_ret
  exact ⟨rfl,Below.refl _ _⟩
 ·have hu1:1≤u:=by omega
  have hui:¬ (u:Int)<100:=by omega
  have hnd20:Lib.nDigits u≤20:=by have:=Lib.numDigits_eq u hu1 hu64;split at this <;> omega
  have hH0:=Lib.holds_zero0 w 122 (Lib.nDigits u) (by omega)
  have hfmt:=Tryz.internal_strconv_formatBase10 w.heap.size 0 24 u (Array.replicate (Lib.nDigits u) 0) (w.alloc (.cells Lib.zeros24 122)) hH0 (by rw [Array.size_replicate];exact Lib.lt_pow_nDigits u) hu64 (by rw [Array.size_replicate];omega)
  rw [Array.size_replicate] at hfmt
  have hal:Tryz.prog.arrayLen 122=24:=by kernel_rfl
  have hsl2:∀ W,(Instr.sliceAt 122 (.pointer (some ⟨w.heap.size,0,none⟩)) none (some (.int .i64 (Lib.nDigits u:Int))) none).run Tryz.prog W=.ok (.slice (some ⟨w.heap.size,0,none⟩) (Lib.nDigits u) 24) W:=fun W =>by
   rw [run_sliceAt_array_h W 122 ⟨w.heap.size,0,none⟩ (by kernel_rfl) .i64 (Lib.nDigits u:Int) (by omega) (by rw [hal];omega)]
   go_simp
  have HH0:=yh hH0
  have HFM:=yh hfmt
  have HND:=yh (fun W h =>Tryz.internal_strconv_numDigits u hu1 hu64 W h)
  have HTA:=yh (Lib.tabIs_alloc (P:=Tryz.prog) htab (.cells Lib.zeros24 122))
  clear hH0 hfmt htab hal
  go_enter Tryz.func73,Tryz.ntmps73
  go_wp2_with fail
  refine (HND.out _ HTA.out).mono ?_
  rintro e w1 ⟨rfl,rfl⟩
  go_wp2_with fail
  refine HFM.out.mono ?_
  rintro e w' ⟨rfl,k,v',dk,rfl,hF⟩
  have hcv:(convert 59 9 (.slice (some ⟨w.heap.size,0,none⟩) (Lib.nDigits u) 24)).run Tryz.prog ((putRow (fun (b:UInt8) =>Value.int .u8 (b.toNat:Int)) (w.alloc (.cells Lib.zeros24 122)) w.heap.size 0 dk).drewN k)=.ok (.string (tx (Lib.decDigits u))) ((putRow (fun (b:UInt8) =>Value.int .u8 (b.toNat:Int)) (w.alloc (.cells Lib.zeros24 122)) w.heap.size 0 dk).drewN k):=by
   have h:=run_convert_bytes_back (P:=Tryz.prog) ((putRow (fun (b:UInt8) =>Value.int .u8 (b.toNat:Int)) (w.alloc (.cells Lib.zeros24 122)) w.heap.size 0 dk).drewN k) 59 9 5 ⟨w.heap.size,0,none⟩ 24 (Lib.decDigits u) Tryz.underlying59 Tryz.underlying5 Tryz.underlying9 (fun j hj =>by
    rw [Lib.row_is_numeral hF j hj,Lib.add_plain,World.cell?_drewN]
    exact cell?_putRow (fun (b:UInt8) =>Value.int .u8 (b.toNat:Int)) _ w.heap.size 0 _ dk HH0.out (by rw [hF.size,Array.size_replicate]) j (by rw [hF.size];rw [Lib.decDigits_length] at hj;exact hj))
   rw [Lib.decDigits_length] at h
   exact h
  obtain ⟨os,eo⟩:=Lib.fin_at w (.cells Lib.zeros24 122) dk k 0
  have HB:=yh (zEg w k os)
  rw [← eo] at HB
  clear eo HFM HND HTA
  go_wp2
  go_ret
  exact ⟨rfl,HB.out⟩
theorem zKi (u:Nat) (hu64:u<18446744073709551616) (w:World) (htab:zAl w) :
  Calls Tryz.prog 42 #[.int .u64 (u:Int),.int .i64 10] w fun e w' =>e=.returned (.string (tx (Lib.decDigits u)))∧Below w.heap.size w w':=by
 have H:=yh (zJm u hu64 w htab)
 go_enter Tryz.func42,Tryz.ntmps42
 go_wp2_with fail
 refine H.out.mono ?_
 rintro e w1 ⟨rfl,hb⟩
 go_wp2
 go_ret
 exact ⟨rfl,hb⟩
theorem zIW (m:Nat) (hm:m<10):({ data:=#[48,49,50,51,52,53,54,55,56,57] }:ByteArray).extract m (m+1)=tx [UInt8.ofNat (48+m)]:=by
 have:∀ j:Fin 10,({ data:=#[48,49,50,51,52,53,54,55,56,57] }:ByteArray).extract j.val (j.val+1)=tx [UInt8.ofNat (48+j.val)]:=by decide
 exact this ⟨m,hm⟩
theorem zAY {u:Nat} (h:u<10):Lib.decDigits u=[UInt8.ofNat (48+u)]:=by unfold Lib.decDigits;rw [dif_pos h]
theorem zBZ {u:Nat} (h:¬ u<10):Lib.decDigits u=Lib.decDigits (u / 10)++Lib.decDigits (u % 10):=by
 rw [zAY (show u % 10<10 by omega)]
 conv =>lhs;unfold Lib.decDigits;rw [dif_neg h]
theorem zEj (u:Nat) (hu64:u<18446744073709551616) (w:World) :
  Calls Tryz.prog 52 #[.int .u64 (u:Int)] w fun e w' =>e=.returned (.string (tx (Lib.decDigits u)))∧w=w':=by
 induction u using Nat.strongRecOn generalizing w with
 | _ u ih =>
  by_cases hs:u<10
  ·have hsl:∀ W,(Instr.slice 9 (.string { data:=#[48,49,50,51,52,53,54,55,56,57] }) (some (.int .u64 (u:Int))) (some (.int .u64 ((u:Int)+1))) none).run Tryz.prog W=.ok (.string (tx (Lib.decDigits u))) W:=fun W =>by
    have h1:=run_slice_string (P:=Tryz.prog) W 9 { data:=#[48,49,50,51,52,53,54,55,56,57] } .u64 .u64 (u:Int) ((u:Int)+1) Tryz.underlying9 (by omega) (by omega) (by show ((u:Int)+1)≤10;omega)
    rw [h1,Int.toNat_natCast,show ((u:Int)+1).toNat=u+1 by omega,zIW u hs,zAY hs]
   have hw:IntKind.u64.wrap ((u:Int)+1)=(u:Int)+1:=by rw [IntKind.wrap_u64];omega
   have hui:(u:Int)<10:=by omega
   clear ih
   go_enter Tryz.func52,Tryz.ntmps52
   go_wp2
   go_ret
   exact ⟨rfl,rfl⟩
  ·have h1:=yh (fun W =>ih (u / 10) (by omega) (by omega) W)
   have h2:=yh (fun W =>ih (u % 10) (by omega) (by omega) W)
   have hln:(Lib.decDigits (u / 10)).length≤30:=by
    have h3:=Lib.numDigits_eq (u / 10) (by omega) (by omega)
    rw [Lib.decDigits_length]
    split at h3 <;> omega
   have hadd:∀ W:World,(Op.stringOp .add (tx (Lib.decDigits (u / 10))) (tx (Lib.decDigits (u % 10)))).run Tryz.prog W=.ok (.string (tx (Lib.decDigits u))) W:=fun W =>by
    rw [zBZ hs]
    exact zAc W _ _ (by rw [zAY (show u % 10<10 by omega)];simp;omega)
   obtain ⟨q,hq⟩:∃ q,q=u / 10:=⟨_,rfl⟩
   obtain ⟨r,hr⟩:∃ r,r=u % 10:=⟨_,rfl⟩
   have k1:(u:Int) / 10=(q:Int):=by omega
   have k2:(u:Int) % 10=(r:Int):=by omega
   have k3:=zBv q (by omega)
   have k4:=zBv r (by omega)
   have hui:¬ (u:Int)<10:=by omega
   rw [← hq] at h1 hadd
   rw [← hr] at h2 hadd
   clear ih hln hq hr
   generalize tx (Lib.decDigits u)=s at *
   generalize tx (Lib.decDigits q)=s1 at *
   generalize tx (Lib.decDigits r)=s2 at *
   go_enter Tryz.func52,Tryz.ntmps52
   go_wp2_with fail
   refine (h1.out _).mono ?_
   rintro e w1 ⟨rfl,rfl⟩
   go_wp2_with fail
   refine (h2.out _).mono ?_
   rintro e w2 ⟨rfl,rfl⟩
   go_wp2
   go_ret
   exact ⟨rfl,rfl⟩
def okb (b:UInt8):Bool:=decide (33≤b.toNat∧b.toNat≤126∧b.toNat≠92)
def sgn (all:Bool) (b:UInt8):List UInt8:=if all=false∧okb b=true then [b] else [92,dig (b.toNat / 16),dig (b.toNat % 16)]
def eput (s:List UInt8):List UInt8:=if s=[] then [45] else s.flatMap (sgn (decide (s=[45])))
def ahd (c:UInt8) (l:List UInt8):UInt8×Nat :=
 match l with
 | a :: b :: _ =>if c=92 then (match hval a,hval b with | some h,some k =>(UInt8.ofNat (16 * h+k),3) | _,_ =>(c,1)) else (c,1)
 | _ =>(c,1)
theorem zED (c:UInt8) (l:List UInt8):(ahd c l).2=1∨((ahd c l).2=3∧2≤l.length):=by
 unfold ahd
 split
 ·split
  ·split
   ·right;simp
   ·left;rfl
  ·left;rfl
 ·left;rfl
def erd:Nat→List UInt8→List UInt8
 | 0,_ =>[]
 | _+1,[] =>[]
 | f+1,c :: l =>(ahd c l).1 :: erd f ((c :: l).drop (ahd c l).2)
def zBc (w:List UInt8):List UInt8:=if w=[45] then [] else erd w.length w
theorem zJe:∀ (f g:Nat) (w:List UInt8),w.length≤f→f≤g→erd g w=erd f w:=by
 intro f
 induction f with
 | zero =>
  intro g w h1 _
  have:w=[]:=List.eq_nil_of_length_eq_zero (by omega)
  subst this
  cases g <;> rfl
 | succ f ih =>
  intro g w h1 h2
  cases g with
  | zero =>omega
  | succ g =>
   cases w with
   | nil =>rfl
   | cons c l =>
    have h3:((c :: l).drop (ahd c l).2).length≤f:=by
     have:=zED c l
     simp only [List.length_drop,List.length_cons] at *
     omega
    show _ :: _=_ :: _
    rw [ih g _ h3 (by omega)]
def rest (w:List UInt8):List UInt8:=erd w.length w
theorem zJt:rest []=[]:=rfl
theorem zDw (c:UInt8) (l:List UInt8):rest (c :: l)=(ahd c l).1 :: rest ((c :: l).drop (ahd c l).2):=by
 unfold rest
 show (ahd c l).1 :: erd l.length ((c :: l).drop (ahd c l).2)=_
 have:=zED c l
 rw [zJe ((c :: l).drop (ahd c l).2).length l.length _ (Nat.le_refl _) (by simp only [List.length_drop,List.length_cons];omega)]
theorem zCB {b:UInt8} (h:okb b=true):sgn false b=[b]:=by simp [sgn,h]
theorem zBk {a:Bool} {b:UInt8} (h:¬ (a=false∧okb b=true)):sgn a b=[92,dig (b.toNat / 16),dig (b.toNat % 16)]:=by rw [sgn,if_neg h]
theorem zIM (b:UInt8) (l:List UInt8):ahd 92 (dig (b.toNat / 16) :: dig (b.toNat % 16) :: l)=(b,3):=by
 have h1:hval (dig (b.toNat / 16))=some (b.toNat / 16):=zER ⟨b.toNat / 16,by have:=b.toNat_lt;omega⟩
 have h2:hval (dig (b.toNat % 16))=some (b.toNat % 16):=zER ⟨b.toNat % 16,by omega⟩
 have h3:UInt8.ofNat (16 * (b.toNat / 16)+b.toNat % 16)=b:=by
  rw [show 16 * (b.toNat / 16)+b.toNat % 16=b.toNat by omega];simp
 simp only [ahd,h1,h2,if_true,h3]
theorem zJT {b:UInt8} (h:okb b=true) (l:List UInt8):ahd b l=(b,1):=by
 have h1:b≠92:=by
  rintro rfl
  simp [okb] at h
 unfold ahd
 split
 ·rw [if_neg h1]
 ·rfl
theorem zEb (a:Bool) (b:UInt8) (l:List UInt8):rest (sgn a b++l)=b :: rest l:=by
 by_cases h:a=false∧okb b=true
 ·rw [h.1,zCB h.2]
  show rest (b :: l)=_
  rw [zDw,zJT h.2];rfl
 ·rw [zBk h]
  show rest (92 :: dig (b.toNat / 16) :: dig (b.toNat % 16) :: l)=_
  rw [zDw,zIM];rfl
theorem zDx (a:Bool) (s:List UInt8):rest (s.flatMap (sgn a))=s:=by
 induction s with
 | nil =>rfl
 | cons b s ih =>rw [List.flatMap_cons,zEb,ih]
theorem zJI (a:Bool) (b:UInt8):sgn a b≠[]:=by
 by_cases h:a=false∧okb b=true
 ·rw [h.1,zCB h.2];simp
 ·rw [zBk h];simp
theorem zJh {a:Bool} {s:List UInt8} {c:UInt8} (h:s.flatMap (sgn a)=[c]):s=[c]∧a=false:=by
 cases s with
 | nil =>simp at h
 | cons b s =>
  rw [List.flatMap_cons] at h
  by_cases h1:a=false∧okb b=true
  ·rw [h1.1,zCB h1.2] at h
   have h2:b=c∧s.flatMap (sgn false)=[]:=by simpa using h
   cases s with
   | nil =>exact ⟨by rw [h2.1],h1.1⟩
   | cons x s =>exact absurd (List.flatMap_eq_nil_iff.1 h2.2 x (by simp)) (zJI false x)
  ·rw [zBk h1] at h
   simp at h
theorem zHO (s:List UInt8):eput s≠[]:=by
 unfold eput
 split
 ·simp
 ·cases s with
  | nil =>contradiction
  | cons b s =>rw [List.flatMap_cons];intro h;exact zJI _ _ (List.append_eq_nil_iff.1 h).1
theorem zGv {s:List UInt8} (h:s≠[]):eput s≠[45]:=by
 unfold eput
 rw [if_neg h]
 intro h1
 have h2:=zJh h1
 rw [h2.1] at h2
 simp at h2
theorem zHl (s:List UInt8):zBc (eput s)=s:=by
 by_cases h:s=[]
 ·subst h;rfl
 ·unfold zBc
  rw [if_neg (zGv h)]
  unfold eput
  rw [if_neg h]
  exact zDx _ s
def eget (w:List UInt8):List UInt8×Bool:=if eput (zBc w)=w then (zBc w,true) else ([],false)
theorem zCs (s:List UInt8):eget (eput s)=(s,true):=by
 unfold eget
 rw [zHl,if_pos rfl]
theorem zKh:∀ (f:Nat) (w:List UInt8),(erd f w).length≤w.length:=by
 intro f
 induction f with
 | zero =>intro w;simp [erd]
 | succ f ih =>
  intro w
  cases w with
  | nil =>simp [erd]
  | cons c l =>
   have h1:=ih ((c :: l).drop (ahd c l).2)
   have h2:=zED c l
   show ((ahd c l).1 :: erd f ((c :: l).drop (ahd c l).2)).length≤_
   simp only [List.length_cons,List.length_drop] at *
   omega
theorem zFQ (w:List UInt8):(zBc w).length≤w.length:=by
 unfold zBc
 split
 ·simp
 ·exact zKh _ _
theorem zIV (m:Fin 16):48≤(dig m.val).toNat∧(dig m.val).toNat≤102:=by revert m;decide
theorem zKy {a:Bool} {b x:UInt8} (h:x ∈ sgn a b):33≤x.toNat∧x.toNat≤126:=by
 by_cases h1:a=false∧okb b=true
 ·rw [h1.1,zCB h1.2] at h
  have h2:x=b:=by simpa using h
  subst h2
  have:=h1.2
  simp only [okb,decide_eq_true_eq] at this
  omega
 ·rw [zBk h1] at h
  have h3:=zIV ⟨b.toNat / 16,by have:=b.toNat_lt;omega⟩
  have h4:=zIV ⟨b.toNat % 16,by omega⟩
  simp only at h3 h4
  rcases (by simpa using h:x=92∨x=dig (b.toNat / 16)∨x=dig (b.toNat % 16)) with rfl | rfl | rfl
  ·decide
  ·omega
  ·omega
theorem zGE {s:List UInt8} {x:UInt8} (h:x ∈ eput s):33≤x.toNat∧x.toNat≤126:=by
 unfold eput at h
 split at h
 ·have:x=45:=by simpa using h
  subst this
  decide
 ·obtain ⟨b,_,hb⟩:=List.mem_flatMap.1 h
  exact zKy hb
theorem zCd (a:Bool) (b:UInt8):1≤(sgn a b).length∧(sgn a b).length≤3:=by
 by_cases h:a=false∧okb b=true
 ·rw [h.1,zCB h.2];simp
 ·rw [zBk h];simp
theorem zDp (a:Bool) (s:List UInt8):(s.flatMap (sgn a)).length≤3 * s.length:=by
 induction s with
 | nil =>simp
 | cons b s ih =>have:=zCd a b;simp only [List.flatMap_cons,List.length_append,List.length_cons];omega
theorem zBX (s:List UInt8):(eput s).length≤3 * s.length+1:=by
 unfold eput
 split
 ·simp
 ·have:=zDp (decide (s=[45])) s;omega
theorem zJH {a:Bool} {b c:UInt8} {l m:List UInt8} (h:sgn a b++l=sgn a c++m):b=c∧l=m:=by
 have h1:=congrArg rest h
 rw [zEb,zEb] at h1
 have h2:b=c:=(List.cons.inj h1).1
 subst h2
 exact ⟨rfl,List.append_cancel_left h⟩
def allw (w:List UInt8):Bool:=decide (w=[92,50,100])
theorem zJd {s:List UInt8} (h:s≠[]):decide (s=[45])=allw (eput s):=by
 unfold allw
 by_cases h1:s=[45]
 ·subst h1;decide
 ·rw [decide_eq_false h1]
  symm
  refine decide_eq_false ?_
  intro h2
  unfold eput at h2
  rw [if_neg h,decide_eq_false h1] at h2
  have h3:=congrArg rest h2
  rw [zDx] at h3
  exact h1 (h3.trans (by decide))
theorem zJc {w acc:List UInt8} (h45:w≠[45]) (hne:acc≠[]) (h:w=acc.flatMap (sgn (allw w))):eget w=(acc,true):=by
 have h1:decide (acc=[45])=allw w:=by
  by_cases h2:allw w=true
  ·have h3:w=[92,50,100]:=of_decide_eq_true h2
   have h4:=congrArg rest h
   rw [zDx] at h4
   have h5:acc=[45]:=by rw [← h4,h3];decide
   rw [h2,h5];decide
  ·have h2':allw w=false:=by simpa using h2
   rw [h2']
   refine decide_eq_false ?_
   rintro rfl
   rw [h2'] at h
   exact h45 (h.trans (by decide))
 have h2:eput acc=w:=by
  unfold eput
  rw [if_neg hne,h1,← h]
 rw [← h2]
 exact zCs acc
theorem zKg {w acc l:List UInt8} (h45:w≠[45]) (h:w=acc.flatMap (sgn (allw w))++l) (hl:l≠[]) (hno:∀ c m,l≠sgn (allw w) c++m):eget w=([],false):=by
 unfold eget
 refine if_neg ?_
 intro h1
 obtain ⟨s,hs⟩:∃ s,s=zBc w:=⟨_,rfl⟩
 rw [← hs] at h1
 have hne:s≠[]:=by
  rintro rfl
  exact h45 h1.symm
 have hall:=zJd hne
 rw [h1] at hall
 have h2:w=s.flatMap (sgn (allw w)):=by
  rw [← hall]
  unfold eput at h1
  rw [if_neg hne] at h1
  exact h1.symm
 have h3:∀ (acc s:List UInt8),acc.flatMap (sgn (allw w))++l=s.flatMap (sgn (allw w))→False:=by
  intro acc
  induction acc with
  | nil =>
   intro s hs
   cases s with
   | nil =>exact hl (by simpa using hs)
   | cons c s =>exact hno c _ (by simpa using hs)
  | cons b acc ih =>
   intro s hs
   cases s with
   | nil =>
    rw [List.flatMap_cons] at hs
    have:=zCd (allw w) b
    have h4:=congrArg List.length hs
    simp only [List.length_append,List.flatMap_nil,List.length_nil] at h4
    omega
   | cons c s =>
    rw [List.flatMap_cons,List.flatMap_cons,List.append_assoc] at hs
    exact ih s (zJH hs).2
 exact h3 acc s (h.symm.trans h2)
theorem zJb:eget []=([],false):=by decide
theorem zGu:eget [45]=([],true):=by decide
end Go.Proofs.YtgoklhoaedceaaaGreatDoor
