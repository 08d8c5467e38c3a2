/- Texts of one proof. -/
import Derived.Lib.AtoiErrMem
import Derived.Lib.ParseIntB
import Derived.Lib.Strings
import Derived.Recover
import Derived.Test.YtgoklhoaedceaaaGreatDoorMx14
set_option maxRecDepth 100000
set_option maxHeartbeats 8000000
namespace Go.Proofs.YtgoklhoaedceaaaGreatDoor
open Go.RowKit
def Mt (all:Bool) (l:List UInt8) (k:Nat) (c:UInt8):Prop:=∃ m,l.drop k=sgn all c++m
theorem zGo {all:Bool} {l:List UInt8} {k:Nat} {c:UInt8}:Mt all l k c ↔ (l.take (k+(sgn all c).length)).drop k=sgn all c:=by
 constructor
 ·rintro ⟨m,hm⟩
  rw [List.drop_take,hm,show k+(sgn all c).length - k=(sgn all c).length by omega,List.take_left]
 ·intro h
  rw [List.drop_take,show k+(sgn all c).length - k=(sgn all c).length by omega] at h
  exact ⟨(l.drop k).drop (sgn all c).length,by conv =>lhs;rw [← List.take_append_drop (sgn all c).length (l.drop k),h]⟩
theorem zGp {all:Bool} {l:List UInt8} {k:Nat} {c:UInt8} (h:Mt all l k c) (hk:k≤l.length):k+(sgn all c).length≤l.length:=by
 obtain ⟨m,hm⟩:=h
 have:=congrArg List.length hm
 rw [List.length_drop,List.length_append] at this
 omega
def zGN (all:Bool) (l acc:List UInt8) (k:Nat) (w:World) (v4 v5 v6 v7:Value) (wr:World):Prop :=
  ∃ j:Nat,j≤256∧v7=.int .i64 (j:Int)∧Below w.heap.size w wr ∧
    ((v6=.bool false∧v4=.string (tx acc)∧v5=.int .i64 (k:Int)∧∀ c:UInt8,c.toNat<j→¬ Mt all l k c) ∨
     (v6=.bool true∧∃ c:UInt8,Mt all l k c∧v4=.string (tx (acc++[c]))∧v5=.int .i64 ((k+(sgn all c).length:Nat):Int)))
def GRel (all:Bool) (l:List UInt8) (w:World) (v4 v5:Value) (wr:World):Prop :=
 ∃ (acc:List UInt8) (k:Nat),v4=.string (tx acc)∧v5=.int .i64 (k:Int)∧k≤l.length∧l.take k=acc.flatMap (sgn all)∧Below w.heap.size w wr
theorem zIS {all:Bool} {l acc:List UInt8} {k:Nat} (h:l.take k=acc.flatMap (sgn all)) (hk:k≤l.length):acc.length≤k:=by
 have h1:=congrArg List.length h
 rw [List.length_take] at h1
 have h2:∀ acc:List UInt8,acc.length≤(acc.flatMap (sgn all)).length:=by
  intro acc
  induction acc with
  | nil =>simp
  | cons b acc ih =>have:=zCG all b;simp only [List.flatMap_cons,List.length_append,List.length_cons];omega
 have:=h2 acc
 omega
theorem zCI (l:List UInt8) (hl:l.length≤5000) (w:World) :
  Calls Tryz.prog 36 #[.string (tx l)] w fun e w' =>e=.returned (.tuple #[.string (tx (eget l).1),.bool (eget l).2])∧Below w.heap.size w w':=by
 by_cases h45:l=[45]
 ·subst h45
  have h1:((tx [45]).toList == [45])=true:=by rw [zAb];decide
  have hv:eget [45]=([],true):=zFO
  rw [hv]
  go_enter Tryz.func36,Tryz.ntmps36
  go_wp2
  go_ret2
  exact ⟨rfl,Below.refl _ _⟩
 ·have h1:((tx l).toList == [45])=false:=by rw [zAb,decide_eq_false h45]
  obtain ⟨all,hall⟩:∃ all,all=allw l:=⟨_,rfl⟩
  have hall2:((tx l).toList == [92,50,100])=all:=by rw [zAb,hall];rfl
  have H0:Hid (GRel all l w (.string ⟨#[]⟩) (.int .i64 0) w):=⟨[],0,rfl,rfl,by omega,rfl,Below.refl _ _⟩
  have HALL:=yh hall
  have H45:=yh h45
  obtain ⟨n,hn⟩:∃ n,n=l.length:=⟨_,rfl⟩
  have hsz:(tx l).size=n:=by rw [zAN,hn]
  have HN:=yh hn
  have HEX:=yh (fun a b =>zBM l a b)
  rw [← hn] at hl
  generalize hs:tx l=s at *
  clear hs hall hn h45
  go_enter Tryz.func36,Tryz.ntmps36
  go_wp2
  go_loopw [4,5] (fun v4 v5 wr =>GRel all l w v4 v5 wr) (fun _ v5 _ =>n - (intOf v5).toNat)
  case atStart =>exact H0.out
  case round =>
   obtain ⟨acc,k,rfl,rfl,hk,htk,hb⟩:=hrel
   obtain ⟨wo,hwo⟩:∃ x,x=wr:=⟨wr,rfl⟩
   subst hwo
   clear H0
   rw [← HN.out] at hk
   have HTK:=yh htk
   have HB:=yh hb
   have hal:acc.length≤k:=zIS htk (by rw [← HN.out];exact hk)
   have HI:Hid (zGN all l acc k w (.string (tx acc)) (.int .i64 (k:Int)) (.bool false) (.int .i64 0) wo):=⟨0,by omega,rfl,hb,.inl ⟨rfl,rfl,rfl,fun c h =>by omega⟩⟩
   clear htk hb
   by_cases hlt:k<n
   ·have hk0:(0:Int)≤(k:Int):=by omega
    have hk1:(k:Int)<(n:Int):=by omega
    go_wp2
    go_loopw [4,5,6,7] (fun v4 v5 v6 v7 wr =>zGN all l acc k w v4 v5 v6 v7 wr) (fun _ _ _ v7 _ =>256 - (intOf v7).toNat)
    case atStart =>exact HI.out
    case round =>
     obtain ⟨j,hj,rfl,hbr,hcase⟩:=hrel
     clear HI
     have HBR:=yh hbr
     clear hbr
     rcases hcase with ⟨rfl,rfl,rfl,hno⟩ | ⟨rfl,c,hmt,rfl,rfl⟩
     ·by_cases hj2:j<256
      ·obtain ⟨c,hc⟩:∃ c:UInt8,c.toNat=j:=⟨UInt8.ofNat j,by simp;omega⟩
       have hsg:=fun W =>zFG c all W
       rw [hc] at hsg
       have HSG:=yh hsg
       have hml:=zCG all c
       obtain ⟨g,hg⟩:∃ g,g=sgn all c:=⟨_,rfl⟩
       obtain ⟨m,hm⟩:∃ m,m=(sgn all c).length:=⟨_,rfl⟩
       have hgs:(tx g).size=m:=by rw [zAN,hg,hm]
       have hadd:=fun W:World =>zAa (P:=Tryz.prog) W acc [c] (by simp;omega)
       have hbc:bv c=.int .u8 (j:Int):=by unfold bv;rw [hc]
       have HCV:Hid (∀ W:World,(convert 59 9 (.slice (some ⟨W.heap.size,0,none⟩) 1 1)).run Tryz.prog (W.alloc (.cells #[.int .u8 (j:Int)] 5))=.ok (.string (tx [c])) (W.alloc (.cells #[.int .u8 (j:Int)] 5))):=fun W =>by
        have h:=zCz W 5 c
        rw [hbc] at h
        exact zAt Tryz.underlying59 Tryz.underlying5 Tryz.underlying9 h
       have hj0:(0:Int)≤(j:Int):=by omega
       have hj1:(j:Int)<256:=by omega
       rw [← hg] at HSG
       rw [← hm] at hml
       have hm0:(0:Int)≤(m:Int):=by omega
       have hm3:m≤3:=hml.2
       have hm1:1≤m:=hml.1
       have HG:=yh hg
       have HM:=yh hm
       have HC:=yh hc
       have HNO:=yh hno
       by_cases hmt:Mt all l k c
       ·have hkm:k+m≤n:=by rw [hm,HN.out];exact zGp hmt (by rw [← HN.out];omega)
        have hex:s.extract k (k+m)=tx g:=by rw [HEX.out,hm,zGo.1 hmt,← hg]
        have hkm2:(k:Int)+(m:Int)≤(n:Int):=by omega
        have hsl:=zET s k m n hsz hkm
        rw [hex] at hsl
        clear hex
        have HMT:=yh hmt
        clear hmt hno hsg hml hg hm hc hbc
        go_wp2_with (go_at_call 62;refine (HSG.out _).mono ?_;rintro e w3 ⟨rfl,hb3⟩;have HB3:=yh ((HBR.out.trans (hb3.mono HBR.out.size)).alloc (by have h1:=HBR.out.size;have h2:=hb3.size;omega) (.cells #[.int .u8 (j:Int)] 5));have hcv:=HCV.out w3;clear hb3)
        exact ⟨⟨j+1,by omega,by go_num,HB3.out,.inr ⟨rfl,c,HMT.out,rfl,by rw [← HM.out];go_num⟩⟩,by simp [intOf];omega⟩
       ·have HX:Hid (∀ c':UInt8,c'.toNat<j+1→¬ Mt all l k c'):=fun c' h =>by
         by_cases h2:c'.toNat<j
         ·exact HNO.out c' h2
         ·obtain rfl:c'=c:=UInt8.toNat_inj.1 (by rw [HC.out];omega)
          exact hmt
        by_cases hkm:k+m≤n
        ·have hq:¬ (l.take (k+m)).drop k=g:=by rw [hm,hg];exact fun h =>hmt (zGo.2 h)
         have hex:s.extract k (k+m)=tx ((l.take (k+m)).drop k):=HEX.out k (k+m)
         have hsl:=zET s k m n hsz hkm
         rw [hex] at hsl
         clear hex
         have hqb:((tx ((l.take (k+m)).drop k)).toList == (tx g).toList)=false:=by rw [zBD (a:=g),zAb,decide_eq_false hq]
         generalize (l.take (k+m)).drop k=q at *
         have hkm2:(k:Int)+(m:Int)≤(n:Int):=by omega
         clear hmt hno hsg hml hg hm hc hbc hq
         go_wp2_with (go_at_call 62;refine (HSG.out _).mono ?_;rintro e w3 ⟨rfl,hb3⟩;have HB3:=yh (HBR.out.trans (hb3.mono HBR.out.size));clear hb3)
         exact ⟨⟨j+1,by omega,by go_num,HB3.out,.inl ⟨rfl,rfl,rfl,HX.out⟩⟩,by simp [intOf];omega⟩
        ·have hkm2:(n:Int)<(k:Int)+(m:Int):=by omega
         clear hmt hno hsg hml hg hm hc hbc
         go_wp2_with (go_at_call 62;refine (HSG.out _).mono ?_;rintro e w3 ⟨rfl,hb3⟩;have HB3:=yh (HBR.out.trans (hb3.mono HBR.out.size));clear hb3)
         exact ⟨⟨j+1,by omega,by go_num,HB3.out,.inl ⟨rfl,rfl,rfl,HX.out⟩⟩,by simp [intOf];omega⟩
      ·obtain rfl:j=256:=by omega
       have hz:Hid (eget l=([],false)):=by
        have h2:l=acc.flatMap (sgn (allw l))++l.drop k:=by rw [← HALL.out,← HTK.out,List.take_append_drop]
        refine zIW H45.out h2 ?_ ?_
        ·intro h3
         have:=congrArg List.length h3
         rw [List.length_drop,← HN.out] at this
         simp at this
         omega
        ·intro c m h3
         rw [← HALL.out] at h3
         exact hno c c.toNat_lt ⟨m,h3⟩
       clear hno
       go_wp2
       go_ret2
       exact ⟨by rw [hz.out];rfl,HBR.out⟩
     ·have hml:=zCG all c
      have hkm:k+(sgn all c).length≤n:=by rw [HN.out];exact zGp hmt (by rw [← HN.out];omega)
      have HNX:Hid (l.take (k+(sgn all c).length)=(acc++[c]).flatMap (sgn all)):=by
       obtain ⟨m,hm⟩:=hmt
       show _=_
       rw [List.take_add,HTK.out,hm,List.take_left,List.flatMap_append];simp
      obtain ⟨m,hm⟩:∃ m,m=(sgn all c).length:=⟨_,rfl⟩
      rw [← hm] at hml hkm HNX ⊢
      generalize acc++[c]=ac at *
      have hj0:(0:Int)≤(j:Int):=by omega
      clear hmt hm
      by_cases hj2:j<256
      ·have hj1:(j:Int)<256:=by omega
       go_wp2
       exact ⟨⟨ac,k+m,rfl,by go_num,by rw [← HN.out];omega,HNX.out,HBR.out⟩,by simp [intOf];omega⟩
      ·have hj1:¬ (j:Int)<256:=by omega
       go_wp2
       exact ⟨⟨ac,k+m,rfl,by go_num,by rw [← HN.out];omega,HNX.out,HBR.out⟩,by simp [intOf];omega⟩
   ·obtain rfl:k=n:=by omega
    clear HI
    rw [List.take_of_length_le (by rw [← HN.out];omega)] at HTK
    by_cases hae:acc=[]
    ·subst hae
     have hz:Hid (eget l=([],false)):=by
      have h2:l=[]:=HTK.out.trans rfl
      rw [h2];exact zHZ
     have h3:(tx []).toList.isEmpty=true:=by rw [zBH];decide
     have h4:(!(tx []).toList.isEmpty)=false:=by rw [h3];rfl
     generalize ht:tx []=t at *
     have HT:=yh ht
     clear ht
     go_wp2
     go_ret2
     exact ⟨by rw [hz.out,HT.out];rfl,HB.out⟩
    ·have hz:Hid (eget l=(acc,true)):=zHa H45.out hae (by rw [← HALL.out];exact HTK.out)
     have h3:(tx acc).toList.isEmpty=false:=by rw [zBH,decide_eq_false hae]
     have h4:(!(tx acc).toList.isEmpty)=true:=by rw [h3];rfl
     generalize ht:tx acc=t at *
     have HT:=yh ht
     clear ht hae
     go_wp2
     go_ret2
     exact ⟨by rw [hz.out,HT.out];rfl,HB.out⟩
end Go.Proofs.YtgoklhoaedceaaaGreatDoor
