/- Texts of one proof. -/
import Derived.Test.YtgoklhoaedceaaaGreatDoorMx20
set_option maxRecDepth 100000
set_option maxHeartbeats 8000000
namespace Go.Proofs.YtgoklhoaedceaaaGreatDoor
open Go.RowKit
theorem zKu (A:Option Addr) (n c:Nat) (xs:List Rw) (hn:n≤100000) (hf:∀ x ∈ xs,x.t.length≤maxLen) (w:World) (h:Recs w w.heap.size A n xs) :
  Calls Tryz.prog 19 #[.slice A n c] w fun e w' =>∃ A' c',e=.returned (.slice A' (fo Rw.k Rw.t xs).length c')∧Recs w' w'.heap.size A' (fo Rw.k Rw.t xs).length (fo Rw.k Rw.t xs)∧Below w.heap.size w w':=by
 have hl0:xs.length=n:=h.len
 have HL:=yh hl0
 have H1:=yh h
 have HF:=yh hf
 have hb0:=(Below.refl w.heap.size w).alloc (Nat.le_refl _) (.cells #[] 37)
 have HST:Hid (∃ (i:Nat) (A':Option Addr) (c':Nat),i≤n∧Value.int .i64 0=.int .i64 (i:Int)∧Value.slice (some ⟨w.heap.size,0,none⟩) 0 0=.slice A' (fo Rw.k Rw.t (xs.take i)).length c'∧Recs (w.alloc (.cells #[] 37)) (w.alloc (.cells #[] 37)).heap.size A' (fo Rw.k Rw.t (xs.take i)).length (fo Rw.k Rw.t (xs.take i))∧(A'=none→c'=0)∧Below w.heap.size w (w.alloc (.cells #[] 37))) :=
  ⟨0,some ⟨w.heap.size,0,none⟩,0,Nat.zero_le _,rfl,rfl,Recs.nil _ _ _,(fun h =>by cases h),hb0⟩
 clear h hf hb0
 go_enter Tryz.func19,Tryz.ntmps19
 go_wp2
 go_loopw [3,4] (fun va idx wr =>∃ (i:Nat) (A':Option Addr) (c':Nat),i≤n∧idx=.int .i64 (i:Int)∧va=.slice A' (fo Rw.k Rw.t (xs.take i)).length c'∧Recs wr wr.heap.size A' (fo Rw.k Rw.t (xs.take i)).length (fo Rw.k Rw.t (xs.take i))∧(A'=none→c'=0)∧Below w.heap.size w wr) (fun _ idx _ =>n - (intOf idx).toNat)
 case atStart =>exact HST.out
 case round =>
  obtain ⟨i,A',c',hi,rfl,rfl,hrc,hac,hb⟩:=hrel
  have HRC:=yh hrc
  have HAC:=yh hac
  have HB:=yh hb
  by_cases hlt:i<n
  ·obtain ⟨x,hx⟩:∃ x,xs[i]? = some x:=⟨_,List.getElem?_eq_getElem (by rw [HL.out];exact hlt)⟩
   have hm:=List.mem_of_getElem? hx
   obtain ⟨ad,rfl,_,k0,k1,k2,k3,k4,k5,k6⟩:=zAn (H1.out.below hb).1 i x hx
   have hrx:=(H1.out.2 x hm)
   have hlen:(fo Rw.k Rw.t (xs.take i)).length≤100000:=by
    have h1:=zIY (k:=Rw.k) (t:=Rw.t) (xs.take i)
    rw [List.length_take] at h1
    omega
   have HQ:=yh (zHx A' _ c' (fo Rw.k Rw.t (xs.take i)) x hlen (fun s hs =>HF.out s (List.mem_of_mem_take (zGF hs).1)) (HF.out x hm) wr hrc ⟨(hrx.1.below hb).more hb.size,hrx.2⟩ hac)
   rw [← zKj hx] at HQ
   generalize fo Rw.k Rw.t (xs.take i)=S at *
   obtain ⟨⟨k,t,u,o,m,g⟩,A4,n4,c4,l4⟩:=x
   unfold Rw.val rcv rsv at HQ
   simp only at k0 k1 k2 k3 k4 k5 k6 HQ
   have hi0:(0:Int)≤(i:Int):=by omega
   have hi1:(i:Int)<(n:Int):=by omega
   clear hx hm hrx hlen hrc hac hb
   go_wp2_with (go_at_call 44;refine HQ.out.mono ?_;rintro e w3 ⟨A5,c5,rfl,hrc3,hac3,hb3⟩;have HRC3:=yh hrc3;have HAC3:=yh hac3;have HB3:=yh (HB.out.trans (hb3.mono HB.out.size));clear hrc3 hac3 hb3)
   exact ⟨⟨i+1,A5,c5,by omega,by go_num,rfl,HRC3.out,HAC3.out,HB3.out⟩,by simp [intOf];omega⟩
  ·obtain rfl:i=n:=by omega
   have e:xs.take i=xs:=List.take_of_length_le (by rw [HL.out];omega)
   rw [e] at HRC ⊢
   clear e hrc hac hb
   go_wp2
   go_ret
   exact ⟨A',c',rfl,HRC.out,HB.out⟩
def isS (l:List UInt8):Bool:=Lib.hasPrefix l [115,117,109,32] && (rans (Lib.trimPrefix l [115,117,109,32]++Lib.trimPrefix l [115,117,109,32])).2
theorem zKG (l p:List UInt8):(Lib.trimPrefix l p).length≤l.length:=by
 unfold Lib.trimPrefix
 split
 ·rw [List.length_drop];omega
 ·exact Nat.le_refl _
theorem zCe (l:List UInt8):(tx l).data.toList=l:=by simp [tx]
theorem zHq (l:List UInt8) (hl:l.length≤1000000) (w:World) :
  Calls Tryz.prog 47 #[.string (tx l)] w fun e w' =>e=.returned (.bool (isS l))∧w'=w:=by
 obtain ⟨d,hd⟩:∃ d,d=Lib.trimPrefix l [115,117,109,32]:=⟨_,rfl⟩
 obtain ⟨p,hp⟩:∃ p,p=Lib.hasPrefix l [115,117,109,32]:=⟨_,rfl⟩
 have hdl:d.length≤1000000:=by rw [hd];exact Nat.le_trans (zKG _ _) hl
 have hi:isS l=(p && (rans (d++d)).2):=by unfold isS;rw [← hd,← hp]
 have HC:Hid (Calls Tryz.prog 78 #[.string (tx l),.string { data:=#[115,117,109,32] }] w fun e w' =>e=.returned (.tuple #[.string (tx d),.bool p])∧w'=w):=by
  refine (Tryz.strings_CutPrefix (tx l) { data:=#[115,117,109,32] } w).mono ?_
  rintro e w' ⟨rfl,rfl⟩
  rw [hd,hp,zCe]
  exact ⟨rfl,rfl⟩
 have HR:=yh (zGf (d++d) (by rw [List.length_append];omega) w)
 have hadd:∀ W:World,(Op.stringOp .add (tx d) (tx d)).run Tryz.prog W=.ok (.string (tx (d++d))) W:=fun W =>zAc W d d (by omega)
 have HI:=yh hi
 clear hd hp hi hdl
 rw [HI.out]
 go_enter Tryz.func47,Tryz.ntmps47
 go_wp2_with fail
 refine HC.out.mono ?_
 rintro e w2 ⟨rfl,hw⟩
 obtain rfl:=hw.symm
 go_wp2_with fail
 unfold rav at HR
 refine HR.out.mono ?_
 rintro e w3 ⟨rfl,hw⟩
 obtain rfl:=hw
 cases p with
 | false =>
  go_wp2
  go_ret
  exact ⟨rfl,rfl⟩
 | true =>
  go_wp2
  go_ret
  exact ⟨rfl,rfl⟩
def kOf (T:List UInt8):Nat:=(Lib.lastIndex (Lib.trimSuffix T [10]) [10]+1).toNat
def unsO (T:List UInt8):List UInt8×Int:=if (Lib.hasSuffix T [10] && isS ((Lib.trimSuffix T [10]).drop (kOf T)))=true then (if zAP (T.take (kOf T))=T then (T.take (kOf T),0) else ([],4)) else ([],3)
theorem zDC (s sub:List UInt8):∀ k,-1≤Lib.lastOcc s sub k∧Lib.lastOcc s sub k<k+0∨Lib.lastOcc s sub k = -1
 | 0 =>.inr rfl
 | k+1 =>by
  rw [Lib.lastOcc]
  split
  ·left;omega
  ·rcases zDC s sub k with h | h
   ·left;omega
   ·right;exact h
theorem zES (s:List UInt8) (c:UInt8):-1≤Lib.lastIndex s [c]∧Lib.lastIndex s [c]+1≤s.length:=by
 unfold Lib.lastIndex
 split
 ·rename_i h
  rcases zDC s [c] (s.length - [c].length+1) with h1 | h1
  ·simp only [List.length_singleton] at h h1 ⊢;omega
  ·rw [h1];omega
 ·omega
theorem zKH (l p:List UInt8):(Lib.trimSuffix l p).length≤l.length:=by
 unfold Lib.trimSuffix
 split
 ·rw [List.length_take];omega
 ·exact Nat.le_refl _
theorem zCR (T:List UInt8) (hT:T.length≤1000000) (w:World) (hl:Laid w) :
  Calls Tryz.prog 20 #[.string (tx T)] w fun e w' =>e=.returned (.tuple #[.string (tx (unsO T).1),.int .i64 (unsO T).2])∧Below w.heap.size w w':=by
 obtain ⟨all,hall⟩:∃ all,all=Lib.trimSuffix T [10]:=⟨_,rfl⟩
 obtain ⟨ok,hok⟩:∃ ok,ok=Lib.hasSuffix T [10]:=⟨_,rfl⟩
 obtain ⟨k,hk⟩:∃ k,k=kOf T:=⟨_,rfl⟩
 have hal:all.length≤T.length:=by rw [hall];exact zKH _ _
 have hb:=zES all 10
 have hkk:(k:Int)=Lib.lastIndex all [10]+1:=by rw [hk];unfold kOf;rw [← hall];omega
 have hu:unsO T=if (ok && isS (all.drop k))=true then (if zAP (T.take k)=T then (T.take k,0) else ([],4)) else ([],3):=by unfold unsO;rw [← hall,← hok,← hk]
 have HC:Hid (Calls Tryz.prog 45 #[.string (tx T),.string { data:=#[10] }] w fun e w' =>e=.returned (.tuple #[.string (tx all),.bool ok])∧w'=w):=by
  refine (Tryz.strings_CutSuffix (tx T) { data:=#[10] } w (by rw [zAK];omega)).mono ?_
  rintro e w' ⟨rfl,rfl⟩
  rw [hall,hok,zCe]
  exact ⟨rfl,rfl⟩
 have HLI:Hid (Calls Tryz.prog 46 #[.string (tx all),.string { data:=#[10] }] w fun e w' =>e=.returned (.int .i64 ((k:Int) - 1))∧w'=w):=by
  refine (Tryz.strings_LastIndex (tx all) { data:=#[10] } (by rw [zAK];omega) w).mono ?_
  rintro e w' ⟨rfl,rfl⟩
  rw [zCe]
  refine ⟨?_,rfl⟩
  rw [hkk]
  show Ending.returned (.int .i64 (Lib.lastIndex all [10]))=_
  rw [Int.add_sub_cancel]
 have HIS:=yh (zHq (all.drop k) (by rw [List.length_drop];omega) w)
 have HSE:=yh (zDd (T.take k) (by rw [List.length_take];omega) w hl)
 have hka:k≤all.length:=by omega
 have HU:=yh hu
 have hex1:(tx all).extract k (tx all).size=tx (all.drop k):=by rw [zAv,zAK,List.take_length]
 have hex2:(tx T).extract 0 k=tx (T.take k):=by rw [zAv];simp
 have g1:(k:Int)≤((tx all).size:Int):=by rw [zAK];omega
 have g2:(k:Int)≤((tx T).size:Int):=by rw [zAK];omega
 have g3:(0:Int)≤(k:Int):=by omega
 obtain ⟨b,hb2⟩:∃ b,b=isS (all.drop k):=⟨_,rfl⟩
 rw [← hb2] at HIS
 have hTB:((tx (zAP (T.take k))).toList == (tx T).toList)=decide (zAP (T.take k)=T):=by rw [zAg (a:=T)];exact zAo _ T
 obtain ⟨S,hS⟩:∃ S,S=zAP (T.take k):=⟨_,rfl⟩
 rw [← hS] at HSE hTB
 have HU2:Hid (unsO T=if (ok && b)=true then (if S=T then (T.take k,0) else ([],4)) else ([],3)):=by rw [hb2,hS];exact HU.out
 clear hall hok hk hb hkk hu hl hb2 hS HU
 have hkw:wrap64 ((k:Int) - 1+1)=(k:Int):=by simp [wrap64];omega
 go_enter Tryz.func20,Tryz.ntmps20
 go_wp2_with fail
 refine HC.out.mono ?_
 rintro e w2 ⟨rfl,hw⟩
 obtain rfl:=hw.symm
 go_wp2_with fail
 refine HLI.out.mono ?_
 rintro e w2 ⟨rfl,hw⟩
 obtain rfl:=hw.symm
 cases ok with
 | false =>
  go_wp2
  go_ret2
  exact ⟨by rw [HU2.out];rfl,Below.refl _ _⟩
 | true =>
  go_wp2_with fail
  refine HIS.out.mono ?_
  rintro e w2 ⟨rfl,hw⟩
  obtain rfl:=hw.symm
  cases b with
  | false =>
   go_wp2
   go_ret2
   exact ⟨by rw [HU2.out];rfl,Below.refl _ _⟩
  | true =>
   go_wp2_with fail
   refine HSE.out.mono ?_
   rintro e w3 ⟨rfl,hb3⟩
   have HB3:=yh hb3
   by_cases hST:S=T
   ·rw [decide_eq_true hST] at hTB
    have hTB2:((tx S).toList != (tx T).toList)=false:=by rw [bne,hTB];rfl
    have HST:=yh hST
    clear hST hb3
    go_wp2
    go_ret2
    exact ⟨by rw [HU2.out];simp [HST.out],HB3.out⟩
   ·rw [decide_eq_false hST] at hTB
    have hTB2:((tx S).toList != (tx T).toList)=true:=by rw [bne,hTB];rfl
    have HST:Hid (¬ S=T):=hST
    clear hST hb3
    go_wp2
    go_ret2
    exact ⟨by rw [HU2.out];simp [HST.out];rfl,HB3.out⟩
theorem zEF (s:List UInt8) (c:UInt8) (j:Nat):Lib.occAt s [c] j=(s[j]? == some c):=by
 unfold Lib.occAt
 cases h:s.drop j with
 | nil =>
  have hlen:s.length≤j:=by
   have h2:=congrArg List.length h
   rw [List.length_drop,List.length_nil] at h2
   omega
  rw [List.getElem?_eq_none hlen]
  rfl
 | cons b r =>
  have hb:s[j]? = some b:=by
   have:=congrArg (fun l =>l[0]?) h
   simpa using this
  rw [hb]
  show (c == b && true)=_
  rw [Bool.and_true]
  by_cases hcb:c=b
  ·subst hcb;simp
  ·have h1:(c == b)=false:=beq_eq_false_iff_ne.2 hcb
   have h2:((some b:Option UInt8) == some c)=false:=beq_eq_false_iff_ne.2 (fun e =>hcb (Option.some.inj e).symm)
   rw [h1,h2]
theorem zDr (a b:List UInt8) (c:UInt8) (ha:a=[]∨a.getLast? = some c) (hb:c ∉ b):Lib.lastIndex (a++b) [c]+1=(a.length:Int):=by
 have hno:∀ j,a.length≤j→(a++b)[j]? ≠ some c:=fun j hj h =>by
  rw [List.getElem?_append_right hj] at h
  exact hb (List.mem_of_getElem? h)
 unfold Lib.lastIndex
 split
 ·rename_i hlen
  have hlen1:1≤(a++b).length:=by simpa using hlen
  rw [show (a++b).length - [c].length+1=(a++b).length from by simp only [List.length_singleton];omega]
  rcases Lib.lastOcc_spec (a++b) [c] (a++b).length with ⟨e,hn⟩ | ⟨i,hi,e,ho,hn⟩
  ·rw [e]
   rcases ha with rfl | ha
   ·simp
   ·exfalso
    have hp:0<a.length:=by cases a with | nil =>cases ha | cons _ _ =>simp
    have h1:=hn (a.length - 1) (by rw [List.length_append];omega)
    rw [zEF,List.getElem?_append_left (by omega)] at h1
    rw [List.getLast?_eq_getElem?] at ha
    rw [ha] at h1
    simp at h1
  ·rw [e]
   rw [zEF] at ho
   have ho2:(a++b)[i]? = some c:=by simpa using ho
   have hia:i<a.length:=by
    rcases Nat.lt_or_ge i a.length with h | h
    ·exact h
    ·exact absurd ho2 (hno i h)
   rcases ha with rfl | ha
   ·simp at hia
   ·have h1:¬ i<a.length - 1:=fun hlt =>by
     have h2:=hn (a.length - 1) hlt (by rw [List.length_append];omega)
     rw [zEF,List.getElem?_append_left (by omega)] at h2
     rw [List.getLast?_eq_getElem?] at ha
     rw [ha] at h2
     simp at h2
    omega
 ·rename_i hlen
  have h0:(a++b).length=0:=by simp only [List.length_singleton] at hlen;omega
  rw [List.length_append] at h0
  omega
theorem zIe (h k:Nat):(10:UInt8) ∉ hexl h k:=fun hm =>zCh h k hm rfl
theorem zFq (l:List UInt8):(10:UInt8) ∉ sum8 l:=fun hm =>zIe _ _ (List.mem_of_mem_drop hm)
theorem zEs:∀ (a b:List UInt8) (acc:Nat),rd acc (a++b)=(rd acc a).bind (fun n =>rd n b)
 | [],b,acc =>by rw [List.nil_append,rd];rfl
 | c :: a,b,acc =>by
  rw [List.cons_append]
  cases h:hval c with
  | none =>rw [zCj h,zCj h];rfl
  | some d =>rw [zCX h,zCX h,zEs a b]
theorem zCk:∀ (l:List UInt8) (acc n k:Nat),rd acc l=some n→∀ acc',∃ n',rd acc' (l.drop k)=some n'
 | l,acc,n,0,h,acc' =>by
  rw [List.drop_zero]
  induction l generalizing acc acc' n with
  | nil =>exact ⟨acc',by rw [rd]⟩
  | cons c l ih =>
   cases hc:hval c with
   | none =>rw [zCj hc] at h;cases h
   | some d =>
    rw [zCX hc] at h ⊢
    exact ih _ _ h _
 | [],acc,n,k+1,h,acc' =>⟨acc',by rw [List.drop_nil,rd]⟩
 | c :: l,acc,n,k+1,h,acc' =>by
  rw [List.drop_succ_cons]
  cases hc:hval c with
  | none =>rw [zCj hc] at h;cases h
  | some d =>
   rw [zCX hc] at h
   exact zCk l _ n k h acc'
theorem zHd (l:List UInt8) (acc:Nat):∃ n,rd acc (sum8 l)=some n :=
 zCk _ 0 _ 8 (zHY (crc l).toNat 16 0) acc
theorem zKm (l:List UInt8):isS ([115,117,109]++32 :: sum8 l)=true:=by
 have hp:Lib.hasPrefix ([115,117,109]++32 :: sum8 l) [115,117,109,32]=true:=by simp [Lib.hasPrefix]
 have ht:Lib.trimPrefix ([115,117,109]++32 :: sum8 l) [115,117,109,32]=sum8 l:=by
  unfold Lib.trimPrefix
  rw [hp]
  simp
 unfold isS
 rw [hp,ht]
 obtain ⟨n,hn⟩:=zHd l 0
 obtain ⟨n2,hn2⟩:=zHd l n
 unfold rans
 rw [if_pos (by rw [List.length_append,zCC]),zEs,hn]
 show (true && (rof (rd n (sum8 l))).2)=true
 rw [hn2]
 rfl
theorem zCY (l:List UInt8) (h:l=[]∨l.getLast? = some 10):unsO (zAP l)=(l,0):=by
 have h1:Lib.hasSuffix (zAP l) [10]=true:=by unfold zAP;exact List.isSuffixOf_iff_suffix.2 (List.suffix_append _ _)
 have h2:Lib.trimSuffix (zAP l) [10]=l++([115,117,109]++32 :: sum8 l):=by
  unfold Lib.trimSuffix
  rw [h1,if_pos rfl]
  unfold zAP
  rw [List.length_append,Nat.add_sub_cancel]
  exact List.take_left
 have h3:kOf (zAP l)=l.length:=by
  unfold kOf
  rw [h2,zDr l _ 10 h (by
   intro hm
   simp only [List.cons_append,List.nil_append,List.mem_cons] at hm
   rcases hm with hm | hm | hm | hm | hm
   ·exact absurd hm (by decide)
   ·exact absurd hm (by decide)
   ·exact absurd hm (by decide)
   ·exact absurd hm (by decide)
   ·exact zFq l hm)]
  simp
 have h4:(zAP l).take l.length=l:=by unfold zAP;rw [List.append_assoc,List.take_left]
 unfold unsO
 rw [h1,h2,h3,List.drop_left,zKm,h4]
 simp
theorem ntxt:txt []=[116,101,112,104,114,97,32,48,10]:=by
 unfold txt hdT lnsT
 rw [show ([]:List Rw).length=0 from rfl,show Lib.decDigits 0=[48] from by unfold Lib.decDigits;simp]
 rfl
theorem zLl:unsO (zAP (txt []))=(txt [],0):=zCY _ (.inr (by rw [ntxt];rfl))
theorem zLt:unsO [120]=([],3):=by
 unfold unsO
 rw [show Lib.hasSuffix [120] [10]=false from by first | rfl | decide]
 rfl
theorem ncut:Lib.cut [116,101,112,104,114,97,32,48,10] [10]=([116,101,112,104,114,97,32,48],[],true):=by first | rfl | decide
theorem n22:(tx (zAP (txt []))).size=22:=by rw [zAK,zBj,ntxt];rfl
theorem zGT (w:World) (hsh:w.ShapedOpen Tryz.prog) :
  Calls Tryz.prog 21 #[.string (tx (txt []))] w fun e w' =>e=.returned (.tuple #[.slice none 0 0,.int .i64 0])∧Below w.heap.size w w':=by
 have HC:Hid (Calls Tryz.prog 48 #[.string (tx (txt [])),.string { data:=#[10] }] w fun e w' =>e=.returned (.tuple #[.string (tx [116,101,112,104,114,97,32,48]),.string ⟨#[]⟩,.bool true])∧Below w.heap.size w w'):=by
  refine (Tryz.strings_Cut_shaped (tx (txt [])) { data:=#[10] } w hsh (by rw [zAK,ntxt];decide)).mono ?_
  rintro e w' ⟨rfl,n,rfl⟩
  rw [zCe,ntxt,ncut]
  exact ⟨rfl,zBs _ w _⟩
 clear hsh
 generalize tx (txt [])=T at *
 go_enter Tryz.func21,Tryz.ntmps21
 go_wp2_with fail
 refine HC.out.mono ?_
 rintro e w2 ⟨rfl,hb⟩
 have HB:=yh hb
 clear hb
 go_wp2
 go_loopw [4,6] (fun v4 v6 wr =>v4=.slice none 0 0∧v6=.string ⟨#[]⟩∧wr=w2) (fun _ _ _ =>0)
 case atStart =>exact ⟨rfl,rfl,rfl⟩
 case round =>
  obtain ⟨rfl,rfl,rfl⟩:=hrel
  go_wp2
  go_ret2
  exact ⟨rfl,HB.out⟩
theorem zEu:zAz []:=by unfold zAz Up;simp
theorem zHs (w:World) (hl:Laid w) (hp:zAl w) (hsh:w.ShapedOpen Tryz.prog) :
  Calls Tryz.prog 8 #[.string (tx (zAP (txt [])))] w fun e w' =>e=.returned (.tuple #[.slice none 0 0,.int .i64 0])∧Below w.heap.size w w':=by
 have HU:Hid (Calls Tryz.prog 20 #[.string (tx (zAP (txt [])))] w fun e w' =>e=.returned (.tuple #[.string (tx (txt [])),.int .i64 0])∧Below w.heap.size w w'):=by
  refine (zCR (zAP (txt [])) (by rw [zBj,ntxt];decide) w hl).mono ?_
  rintro e w' ⟨rfl,hb⟩
  rw [zLl]
  exact ⟨rfl,hb⟩
 have HT:=yh (fun (W:World) (hb:Below w.heap.size w W) =>zGT W (zAW hsh hb))
 have HD:=yh (fun (W:World) (hb:Below w.heap.size w W) =>zCN none 0 0 [] (by decide) (by simp) W (hl.below hb) (hp.below hb) (Recs.nil W W.heap.size none))
 have HOK:Hid (OkT []):=⟨zEu,by simp⟩
 clear hl hp hsh
 generalize tx (txt [])=H at *
 generalize hS:tx (zAP (txt []))=S at HU
 have HE:Hid ((S.toList != S.toList)=false):=by show _=_;simp
 go_enter Tryz.func8,Tryz.ntmps8
 go_wp2_with fail
 refine HU.out.mono ?_
 rintro e w1 ⟨rfl,hb1⟩
 have HB1:=yh hb1
 clear hb1
 go_wp2_with fail
 refine (HT.out _ HB1.out).mono ?_
 rintro e w2 ⟨rfl,hb2⟩
 have HB2:=yh (HB1.out.trans (hb2.mono HB1.out.size))
 clear hb2 HB1
 go_wp2_with fail
 refine (HD.out _ HB2.out).mono ?_
 rintro e w3 ⟨he,hb3⟩
 have HB3:=yh (HB2.out.trans (hb3.mono HB2.out.size))
 clear hb3 HB2
 obtain rfl:e=.returned (.tuple #[.string S,.int .i64 0]):=by
  rcases he with ⟨_,he⟩ | ⟨hn,_⟩
  ·rw [he,hS]
  ·exact absurd HOK.out hn
 clear he hS
 go_wp2
 go_ret2
 exact ⟨rfl,HB3.out⟩
theorem zKp (w:World) (hl:Laid w) :
  Calls Tryz.prog 8 #[.string { data:=#[120] }] w fun e w' =>e=.returned (.tuple #[.slice none 0 0,.int .i64 3])∧Below w.heap.size w w':=by
 have HU:Hid (Calls Tryz.prog 20 #[.string { data:=#[120] }] w fun e w' =>e=.returned (.tuple #[.string ⟨#[]⟩,.int .i64 3])∧Below w.heap.size w w'):=by
  refine (zCR [120] (by decide) w hl).mono ?_
  rintro e w' ⟨rfl,hb⟩
  rw [zLt]
  exact ⟨rfl,hb⟩
 clear hl
 go_enter Tryz.func8,Tryz.ntmps8
 go_wp2_with fail
 refine HU.out.mono ?_
 rintro e w1 ⟨rfl,hb1⟩
 go_wp2
 go_ret2
 exact ⟨rfl,hb1⟩
theorem zCV (w:World) (hl:Laid w) (hp:zAl w) (hsh:w.ShapedOpen Tryz.prog) :
  Calls Tryz.prog 7 #[] w fun e w' =>e=.returned (.bool true)∧Below w.heap.size w w':=by
 have HN:=yh n22
 have HOK:Hid (OkT []):=⟨zEu,by simp⟩
 have HD:=yh (zCN none 0 0 [] (by decide) (by simp) w hl hp (Recs.nil w w.heap.size none))
 have HT:=yh (fun (W:World) (hb:Below w.heap.size w W) =>zHs W (hl.below hb) (hp.below hb) (zAW hsh hb))
 have HX:=yh (fun (W:World) (hb:Below w.heap.size w W) =>zKp W (hl.below hb))
 clear hl hp hsh
 generalize hS:tx (zAP (txt []))=S at HT HN
 have hsz:(S.size:Int)=22:=by rw [HN.out];rfl
 go_enter Tryz.func7,Tryz.ntmps7
 go_wp2_with fail
 refine HD.out.mono ?_
 rintro e w3 ⟨he,hb3⟩
 have HB3:=yh hb3
 clear hb3
 obtain rfl:e=.returned (.tuple #[.string S,.int .i64 0]):=by
  rcases he with ⟨_,he⟩ | ⟨hn,_⟩
  ·rw [he,hS]
  ·exact absurd HOK.out hn
 clear he hS
 go_wp2_with fail
 refine (HT.out _ HB3.out).mono ?_
 rintro e w1 ⟨rfl,hb1⟩
 have HB1:=yh (HB3.out.trans (hb1.mono HB3.out.size))
 clear hb1
 go_wp2_with fail
 refine (HX.out _ HB1.out).mono ?_
 rintro e w2 ⟨rfl,hb2⟩
 have HB2:=yh (HB1.out.trans (hb2.mono HB1.out.size))
 clear hb2
 go_wp2
 go_ret
 exact ⟨rfl,HB2.out⟩
theorem zJl {x:UInt8} (h1:48≤x.toNat) (h2:x.toNat≤57):hval x=some (x.toNat - 48):=by rw [hval,if_pos ⟨h1,h2⟩]
theorem zIf {x:UInt8} (h1:97≤x.toNat) (h2:x.toNat≤102):hval x=some (x.toNat - 87):=by rw [hval,if_neg (by omega),if_pos ⟨h1,h2⟩]
theorem zIg {x:UInt8} (h1:¬ (48≤x.toNat∧x.toNat≤57)) (h2:¬ (97≤x.toNat∧x.toNat≤102)):hval x=none:=by rw [hval,if_neg h1,if_neg h2]
theorem zBb (bs:List UInt8) (hn:bs.length≤1073741824) (w:World) :
  Calls Tryz.prog 23 #[.string (tx bs)] w fun e w' =>e=.returned (rav (rans bs).1 (rans bs).2)∧w=w':=by
 obtain ⟨s,hs⟩:∃ s,s=tx bs:=⟨_,rfl⟩
 have hsz:s.size=bs.length:=by rw [hs,zAK]
 rw [← hs]
 by_cases h16:bs.length=16
 ·have hsz16:s.size=16:=by omega
  have HR:Hid (rans bs=rof (rd 0 bs)):=by rw [rans,if_pos h16];rfl
  have HS:=yh hs
  have H0:DRel bs w (.int .u64 0) (.int .i64 0) w:=⟨0,0,by omega,rfl,by decide,rfl,rfl,rfl⟩
  have HL:=yh h16
  clear hs hsz hn h16
  go_enter Tryz.func23,Tryz.ntmps23
  go_wp2
  go_loopw [4,5] (fun v idx wr =>DRel bs w v idx wr) (fun v idx wr =>16 - (intOf idx).toNat)
  case atStart =>exact H0
  case round =>
   obtain ⟨i,acc,hi,rfl,hacc,rfl,hrd,rfl⟩:=hrel
   clear H0
   by_cases hlt:i<16
   ·obtain ⟨x,hx,hd⟩:=zFC HS.out i (by omega)
    have hroom:=zGc hlt hacc
    rw [hd] at hrd
    have hv256:=x.toNat_lt
    by_cases hA:48≤x.toNat∧x.toNat≤57
    ·have hv:=zJl hA.1 hA.2
     have hnx:=hrd
     rw [zCX hv] at hnx
     have hpn:=zEZ hacc (zCD hv)
     obtain ⟨d,hdd⟩:∃ d,d=x.toNat - 48:=⟨_,rfl⟩
     rw [← hdd] at hnx hpn
     have hd16:d≤9:=by omega
     obtain ⟨z,hz⟩:∃ z,z=16 * acc+d:=⟨_,rfl⟩
     rw [← hz] at hnx hpn
     have HP:=yh hpn
     have hv1:48≤x.toNat:=hA.1
     have hv2:x.toNat≤57:=hA.2
     rw [hx] at hdd hv1 hv2
     have k1:IntKind.u8.wrap ((s[i].toNat:Int) - 48)=(d:Int):=by rw [IntKind.wrap_u8'];omega
     have k2:IntKind.u64.wrap (16 * (acc:Int))=16 * (acc:Int):=by rw [IntKind.wrap_u64];omega
     have k3:IntKind.u64.wrap (16 * (acc:Int)+(d:Int))=(z:Int):=by rw [IntKind.wrap_u64];omega
     have k4:IntKind.u64.wrap (d:Int)=(d:Int):=zBv d (by omega)
     have k5:decide ((97:Int)≤(s[i].toNat:Int))=false:=decide_eq_false (by omega)
     have k6:((d:Int) == 99)=false:=beq_false_of_ne (by omega)
     clear hA hv hrd hpn hdd hz hd hx hacc hroom hv256
     obtain ⟨v,hv⟩:∃ v,s[i].toNat=v:=⟨_,rfl⟩
     rw [hv] at k1 k5 hv1 hv2
     go_wp2
     exact ⟨⟨i+1,z,by omega,rfl,HP.out,by go_num,hnx,rfl⟩,by simp [intOf];omega⟩
    ·by_cases hB:97≤x.toNat∧x.toNat≤102
     ·have hv:=zIf hB.1 hB.2
      have hnx:=hrd
      rw [zCX hv] at hnx
      have hpn:=zEZ hacc (zCD hv)
      obtain ⟨d,hdd⟩:∃ d,d=x.toNat - 97:=⟨_,rfl⟩
      rw [show x.toNat - 87=d+10 by omega] at hnx hpn
      have hd16:d≤5:=by omega
      obtain ⟨z,hz⟩:∃ z,z=16 * acc+(d+10):=⟨_,rfl⟩
      rw [← hz] at hnx hpn
      have HP:=yh hpn
      have hv1:97≤x.toNat:=hB.1
      have hv2:x.toNat≤102:=hB.2
      rw [hx] at hdd hv1 hv2
      have k1:IntKind.u8.wrap ((s[i].toNat:Int) - 97)=(d:Int):=by rw [IntKind.wrap_u8'];omega
      have k2:IntKind.u64.wrap (16 * (acc:Int))=16 * (acc:Int):=by rw [IntKind.wrap_u64];omega
      have k3:IntKind.u64.wrap (16 * (acc:Int)+((d:Int)+10))=(z:Int):=by rw [IntKind.wrap_u64];omega
      have k4:IntKind.u64.wrap (d:Int)=(d:Int):=zBv d (by omega)
      have k5:IntKind.u64.wrap ((d:Int)+10)=(d:Int)+10:=by rw [IntKind.wrap_u64];omega
      have k6:(((d:Int)+10) == 99)=false:=beq_false_of_ne (by omega)
      clear hA hB hv hrd hpn hdd hz hd hx hacc hroom hv256
      obtain ⟨v,hv⟩:∃ v,s[i].toNat=v:=⟨_,rfl⟩
      rw [hv] at k1 hv1 hv2
      go_wp2
      exact ⟨⟨i+1,z,by omega,rfl,HP.out,by go_num,hnx,rfl⟩,by simp [intOf];omega⟩
     ·have hz:rans bs=(0,false):=by rw [HR.out,hrd.out,zCj (zIg hA hB),rof]
      have HZ:=yh hz
      rw [hx] at hA hB
      clear hz hrd hd hx hacc hroom hv256
      obtain ⟨v,hv⟩:∃ v,s[i].toNat=v:=⟨_,rfl⟩
      rw [hv] at hA hB
      have hways:v<48∨(57<v∧v<97)∨102<v:=by omega
      clear hA hB
      rcases hways with h | ⟨h,h'⟩ | h
      all_goals
       go_wp2
       go_ret2
       exact ⟨by rw [HZ.out];rfl,rfl⟩
   ·obtain rfl:i=16:=by omega
    have hz:rans bs=(acc,true):=by rw [HR.out,hrd.out,List.drop_eq_nil_of_le (by rw [HL.out];omega),rd,rof]
    have HZ:=yh hz
    clear hz hrd
    go_wp2
    go_ret2
    exact ⟨by rw [HZ.out];rfl,rfl⟩
 ·have hsz16:¬ s.size=16:=by omega
  have hz:rans bs=(0,false):=by rw [rans,if_neg h16]
  have HZ:=yh hz
  have hs2:s.size≤1073741824:=by omega
  clear hs hsz hn hz h16
  go_enter Tryz.func23,Tryz.ntmps23
  go_wp2
  go_ret2
  exact ⟨by rw [HZ.out];rfl,rfl⟩
end Go.Proofs.YtgoklhoaedceaaaGreatDoor
