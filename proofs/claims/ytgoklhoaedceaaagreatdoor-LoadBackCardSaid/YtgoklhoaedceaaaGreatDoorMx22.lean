/- Texts of one proof. -/
import Derived.ChangeAgain
import Derived.Test.YtgoklhoaedceaaaGreatDoorMx16
set_option maxRecDepth 100000
set_option maxHeartbeats 8000000
namespace Go.Proofs.YtgoklhoaedceaaaGreatDoor
open Go.RowKit
theorem zCT (z:Nat):∀ b ∈ Lib.decDigits z,48≤b.toNat∧b.toNat≤57:=by
 induction z using Nat.strongRecOn with
 | _ z ih =>
  have hd:∀ m,m<10→48≤(UInt8.ofNat (48+m)).toNat∧(UInt8.ofNat (48+m)).toNat≤57:=fun m hm =>by
   have:∀ k:Fin 10,48≤(UInt8.ofNat (48+k.val)).toNat∧(UInt8.ofNat (48+k.val)).toNat≤57:=by decide
   exact this ⟨m,hm⟩
  intro b hb
  by_cases h:z<10
  ·rw [zAY h] at hb
   obtain rfl:=List.mem_singleton.1 hb
   exact hd z h
  ·rw [zBZ h] at hb
   rcases List.mem_append.1 hb with hb | hb
   ·exact ih (z / 10) (by omega) b hb
   ·exact ih (z % 10) (by omega) b hb
theorem zJV (z:Nat) (hz:0<z):∀ c r,Lib.decDigits z=c :: r→c.toNat≠48:=by
 induction z using Nat.strongRecOn with
 | _ z ih =>
  intro c r e
  by_cases h:z<10
  ·rw [zAY h] at e
   injection e with e _
   subst e
   have:∀ k:Fin 10,0<k.val→(UInt8.ofNat (48+k.val)).toNat≠48:=by decide
   exact this ⟨z,h⟩ hz
  ·rw [zBZ h] at e
   cases e2:Lib.decDigits (z / 10) with
   | nil =>exact absurd e2 (zDn _)
   | cons c2 r2 =>
    rw [e2] at e
    injection e with e _
    subst e
    exact ih (z / 10) (by omega) (by omega) _ _ e2
theorem zJW {z:Nat} {c:UInt8} {r:List UInt8} (h:Lib.decDigits z=c :: r) (hc:c.toNat=48):r=[]:=by
 rcases Nat.eq_zero_or_pos z with rfl | hz
 ·rw [zAY (by omega)] at h
  injection h with _ h
  exact h.symm
 ·exact absurd hc (zJV z hz c r h)
theorem zFN (l:List UInt8) (b:UInt8):decV (l++[b])=decV l * 10+(b.toNat - 48):=by unfold decV;rw [List.foldl_append];rfl
theorem zFM (l m:List UInt8):decV l≤decV (l++m):=by
 have key:∀ (m:List UInt8) (n:Nat),n≤m.foldl (fun n b =>n * 10+(b.toNat - 48)) n:=by
  intro m
  induction m with
  | nil =>intro n;exact Nat.le_refl _
  | cons b m ih =>intro n;exact Nat.le_trans (by show n≤n * 10+(b.toNat - 48);omega) (ih _)
 unfold decV
 rw [List.foldl_append]
 exact key m _
theorem zEx {bs:List UInt8} {s:ByteArray} (hs:s=tx bs) (k:Nat) (h:k<s.size):∃ x:UInt8,x.toNat=s[k].toNat∧bs[k]? = some x:=by
 obtain ⟨x,hx,hd⟩:=zFC hs k h
 refine ⟨x,hx,?_⟩
 have:=congrArg (fun l =>l[0]?) hd
 simpa using this
def zBe (l:List UInt8) (w:World) (e:Ending) (w':World):Prop:=w'=w∧∃ (z:Nat) (b:Bool),e=.returned (.tuple #[.int .u64 (z:Int),.bool b])∧z<18446744073709551616∧∀ n,n<18446744073709551616→l=Lib.decDigits n→z=n∧b=true
theorem zHC (l:List UInt8) (hl:l.length≤5000) (w:World) :
  Calls Tryz.prog 37 #[.string (tx l)] w (zBe l w):=by
 by_cases h0:l=[]
 ·subst h0
  have he:((tx []).toList == ([]:List UInt8))=true:=by rw [zAo];decide
  have HN:Hid (zBe [] w (.returned (.tuple #[.int .u64 0,.bool false])) w):=⟨rfl,0,false,rfl,by omega,fun n _ h =>absurd h.symm (zDn n)⟩
  go_enter Tryz.func37,Tryz.ntmps37
  go_wp2
  go_ret2
  exact HN.out
 ·have he:((tx l).toList == ([]:List UInt8))=false:=by rw [zAo,decide_eq_false h0]
  obtain ⟨c,r,hcr⟩:∃ c r,l=c :: r:=by cases l with | nil =>exact absurd rfl h0 | cons c r =>exact ⟨c,r,rfl⟩
  obtain ⟨s,hs⟩:∃ s,s=tx l:=⟨_,rfl⟩
  have hsz:s.size=l.length:=by rw [hs,zAK]
  rw [← hs] at he ⊢
  have hs1:0<s.size:=by rw [hsz,hcr];simp
  obtain ⟨x,hx,hx2⟩:=zEx hs 0 hs1
  obtain rfl:x=c:=by rw [hcr] at hx2;exact (Option.some.inj hx2).symm
  by_cases hz:1<s.size∧x.toNat=48
  ·have HN:Hid (zBe l w (.returned (.tuple #[.int .u64 0,.bool false])) w):=⟨rfl,0,false,rfl,by omega,fun n _ h =>by
    have h1:=zJW (h.symm.trans hcr) hz.2
    rw [hsz,hcr,h1] at hz
    simp at hz⟩
   have g1:decide ((1:Int)<(s.size:Int))=true:=decide_eq_true (by omega)
   have g2:s[0].toNat=48:=by rw [← hx];exact hz.2
   have g3:(1:Int)<(s.size:Int):=by omega
   have g4:(0:Int)<(s.size:Int):=by omega
   clear hs hsz hx hx2 hz h0 hcr hl
   go_enter Tryz.func37,Tryz.ntmps37
   go_wp2
   go_ret2
   exact HN.out
  ·have HS:=yh hs
   have HSZ:=yh hsz
   have hs5:s.size≤5000:=by omega
   by_cases h1:1<s.size
   ·have g1:decide ((1:Int)<(s.size:Int))=true:=decide_eq_true (by omega)
    have g2:¬ s[0].toNat=48:=by rw [← hx];exact fun h =>hz ⟨h1,h⟩
    have g2':((s[0].toNat:Int) == 48)=false:=beq_false_of_ne (by omega)
    have g3:(1:Int)<(s.size:Int):=by omega
    have g4:(0:Int)<(s.size:Int):=by omega
    clear hs hsz hx hx2 hz h0 hcr hl h1
    go_enter Tryz.func37,Tryz.ntmps37
    go_wp2
    go_loopw [4,5] (fun v4 v5 wr =>∃ i acc:Nat,i≤s.size∧v4=.int .u64 (acc:Int)∧v5=.int .i64 (i:Int)∧acc<18446744073709551616∧Hid (acc=decV (l.take i))∧w=wr) (fun _ v5 _ =>s.size - (intOf v5).toNat)
    case atStart =>exact ⟨0,0,by omega,rfl,rfl,by omega,yh (by simp [decV]),rfl⟩
    case round =>
     obtain ⟨i,acc,hi,rfl,rfl,hacc,hdv,rfl⟩:=hrel
     clear g4
     by_cases hlt:i<s.size
     ·obtain ⟨y,hy,hy2⟩:=zEx HS.out i hlt
      have HY:=yh hy2
      have hi0:(0:Int)≤(i:Int):=by omega
      have hi1:(i:Int)<(s.size:Int):=by omega
      have hy256:=y.toNat_lt
      have HIN:Hid (y ∈ l):=List.mem_of_getElem? hy2
      have HV:Hid (decV (l.take (i+1))=acc * 10+(y.toNat - 48)):=by
       rw [List.take_add_one,hy2,hdv.out]
       exact yh (zFN _ _)
      by_cases hlo:y.toNat<48
      ·have HNO:Hid (zBe l w (.returned (.tuple #[.int .u64 0,.bool false])) w):=⟨rfl,0,false,rfl,by omega,fun n _ h =>by
        have:=zCT n y (h▸HIN.out);omega⟩
       rw [hy] at hlo hy256
       obtain ⟨v,hv⟩:∃ v,s[i].toNat=v:=⟨_,rfl⟩
       rw [hv] at hlo hy256
       have k1:decide ((v:Int)<48)=true:=decide_eq_true (by omega)
       have k2:(v:Int)<48:=by omega
       clear hdv hy hy2 hacc
       go_wp2
       go_ret2
       exact HNO.out
      ·by_cases hhi:57<y.toNat
       ·have HNO:Hid (zBe l w (.returned (.tuple #[.int .u64 0,.bool false])) w):=⟨rfl,0,false,rfl,by omega,fun n _ h =>by
         have:=zCT n y (h▸HIN.out);omega⟩
        rw [hy] at hlo hy256 hhi
        obtain ⟨v,hv⟩:∃ v,s[i].toNat=v:=⟨_,rfl⟩
        rw [hv] at hlo hy256 hhi
        have k1:decide ((v:Int)<48)=false:=decide_eq_false (by omega)
        have k2:¬ (v:Int)<48:=by omega
        have k3:decide ((57:Int)<(v:Int))=true:=decide_eq_true (by omega)
        have k4:(57:Int)<(v:Int):=by omega
        clear hdv hy hy2 hacc
        go_wp2
        go_ret2
        exact HNO.out
       ·obtain ⟨d,hd⟩:∃ d,d=y.toNat - 48:=⟨_,rfl⟩
        obtain ⟨Qd,hQ⟩:∃ Qd,Qd=(18446744073709551615 - d) / 10:=⟨_,rfl⟩
        rw [← hd] at HV
        have hd9:d≤9:=by omega
        rw [hy] at hlo hhi hd
        obtain ⟨v,hv⟩:∃ v,s[i].toNat=v:=⟨_,rfl⟩
        rw [hv] at hlo hhi hd
        have k1:decide ((v:Int)<48)=false:=decide_eq_false (by omega)
        have k2:¬ (v:Int)<48:=by omega
        have k3:decide ((57:Int)<(v:Int))=false:=decide_eq_false (by omega)
        have k4:¬ (57:Int)<(v:Int):=by omega
        have k5:IntKind.u8.wrap ((v:Int) - 48)=(d:Int):=by rw [IntKind.wrap_u8'];omega
        have k6:IntKind.u64.wrap (d:Int)=(d:Int):=by rw [IntKind.wrap_u64];omega
        obtain ⟨e,hE⟩:∃ e:Nat,e=18446744073709551615 - d:=⟨_,rfl⟩
        have k7:IntKind.u64.wrap ((18446744073709551615:Int) - (d:Int))=(e:Int):=by rw [IntKind.wrap_u64];omega
        have k8:(e:Int).tdiv 10=(Qd:Int):=by rw [Int.tdiv_eq_ediv_of_nonneg (by omega)];omega
        have k9:IntKind.u64.wrap (Qd:Int)=(Qd:Int):=by rw [IntKind.wrap_u64];omega
        have HE:=yh hE
        have HQ:=yh hQ
        by_cases hov:Qd<acc
        ·have HNO:Hid (zBe l w (.returned (.tuple #[.int .u64 0,.bool false])) w):=⟨rfl,0,false,rfl,by omega,fun n hn h =>by
          have h1:=zDO n
          rw [← h] at h1
          have h2:=zFM (l.take (i+1)) (l.drop (i+1))
          rw [List.take_append_drop,h1,HV.out] at h2
          have:=HQ.out
          omega⟩
         have m1:decide ((Qd:Int)<(acc:Int))=true:=decide_eq_true (by omega)
         have m2:(Qd:Int)<(acc:Int):=by omega
         clear hdv hy hy2 hacc hd hE hQ hov hlo hhi
         go_wp2
         go_ret2
         exact HNO.out
        ·have m1:decide ((Qd:Int)<(acc:Int))=false:=decide_eq_false (by omega)
         have m2:¬ (Qd:Int)<(acc:Int):=by omega
         obtain ⟨z,hz⟩:∃ z,z=acc * 10+d:=⟨_,rfl⟩
         rw [← hz] at HV
         have hzl:z<18446744073709551616:=by omega
         have m3:IntKind.u64.wrap (10 * (acc:Int))=10 * (acc:Int):=by rw [IntKind.wrap_u64];omega
         have m4:IntKind.u64.wrap (10 * (acc:Int)+(d:Int))=(z:Int):=by rw [IntKind.wrap_u64];omega
         have HZL:Hid (z<18446744073709551616):=hzl
         clear hdv hy hy2 hacc hd hE hQ hov hlo hhi hz hzl
         go_wp2
         exact ⟨⟨i+1,z,by omega,rfl,by go_num,HZL.out,yh HV.out.symm,by first | trivial | rfl⟩,by simp [intOf];omega⟩
     ·obtain rfl:i=s.size:=by omega
      have HNO:Hid (zBe l w (.returned (.tuple #[.int .u64 (acc:Int),.bool true])) w):=⟨rfl,acc,true,rfl,hacc,fun n hn h =>by
       have h1:=hdv.out
       rw [List.take_of_length_le (by have:=HSZ.out;omega)] at h1
       rw [h1,h,zDO]
       exact ⟨rfl,rfl⟩⟩
      clear hdv hacc
      go_wp2
      go_ret2
      exact HNO.out
   ·have g1:decide ((1:Int)<(s.size:Int))=false:=decide_eq_false (by omega)
    have g3:¬ (1:Int)<(s.size:Int):=by omega
    have g4:(0:Int)<(s.size:Int):=by omega
    clear hs hsz hx hx2 hz h0 hcr hl h1
    go_enter Tryz.func37,Tryz.ntmps37
    go_wp2
    go_loopw [4,5] (fun v4 v5 wr =>∃ i acc:Nat,i≤s.size∧v4=.int .u64 (acc:Int)∧v5=.int .i64 (i:Int)∧acc<18446744073709551616∧Hid (acc=decV (l.take i))∧w=wr) (fun _ v5 _ =>s.size - (intOf v5).toNat)
    case atStart =>exact ⟨0,0,by omega,rfl,rfl,by omega,yh (by simp [decV]),rfl⟩
    case round =>
     obtain ⟨i,acc,hi,rfl,rfl,hacc,hdv,rfl⟩:=hrel
     clear g4
     by_cases hlt:i<s.size
     ·obtain ⟨y,hy,hy2⟩:=zEx HS.out i hlt
      have HY:=yh hy2
      have hi0:(0:Int)≤(i:Int):=by omega
      have hi1:(i:Int)<(s.size:Int):=by omega
      have hy256:=y.toNat_lt
      have HIN:Hid (y ∈ l):=List.mem_of_getElem? hy2
      have HV:Hid (decV (l.take (i+1))=acc * 10+(y.toNat - 48)):=by
       rw [List.take_add_one,hy2,hdv.out]
       exact yh (zFN _ _)
      by_cases hlo:y.toNat<48
      ·have HNO:Hid (zBe l w (.returned (.tuple #[.int .u64 0,.bool false])) w):=⟨rfl,0,false,rfl,by omega,fun n _ h =>by
        have:=zCT n y (h▸HIN.out);omega⟩
       rw [hy] at hlo hy256
       obtain ⟨v,hv⟩:∃ v,s[i].toNat=v:=⟨_,rfl⟩
       rw [hv] at hlo hy256
       have k1:decide ((v:Int)<48)=true:=decide_eq_true (by omega)
       have k2:(v:Int)<48:=by omega
       clear hdv hy hy2 hacc
       go_wp2
       go_ret2
       exact HNO.out
      ·by_cases hhi:57<y.toNat
       ·have HNO:Hid (zBe l w (.returned (.tuple #[.int .u64 0,.bool false])) w):=⟨rfl,0,false,rfl,by omega,fun n _ h =>by
         have:=zCT n y (h▸HIN.out);omega⟩
        rw [hy] at hlo hy256 hhi
        obtain ⟨v,hv⟩:∃ v,s[i].toNat=v:=⟨_,rfl⟩
        rw [hv] at hlo hy256 hhi
        have k1:decide ((v:Int)<48)=false:=decide_eq_false (by omega)
        have k2:¬ (v:Int)<48:=by omega
        have k3:decide ((57:Int)<(v:Int))=true:=decide_eq_true (by omega)
        have k4:(57:Int)<(v:Int):=by omega
        clear hdv hy hy2 hacc
        go_wp2
        go_ret2
        exact HNO.out
       ·obtain ⟨d,hd⟩:∃ d,d=y.toNat - 48:=⟨_,rfl⟩
        obtain ⟨Qd,hQ⟩:∃ Qd,Qd=(18446744073709551615 - d) / 10:=⟨_,rfl⟩
        rw [← hd] at HV
        have hd9:d≤9:=by omega
        rw [hy] at hlo hhi hd
        obtain ⟨v,hv⟩:∃ v,s[i].toNat=v:=⟨_,rfl⟩
        rw [hv] at hlo hhi hd
        have k1:decide ((v:Int)<48)=false:=decide_eq_false (by omega)
        have k2:¬ (v:Int)<48:=by omega
        have k3:decide ((57:Int)<(v:Int))=false:=decide_eq_false (by omega)
        have k4:¬ (57:Int)<(v:Int):=by omega
        have k5:IntKind.u8.wrap ((v:Int) - 48)=(d:Int):=by rw [IntKind.wrap_u8'];omega
        have k6:IntKind.u64.wrap (d:Int)=(d:Int):=by rw [IntKind.wrap_u64];omega
        obtain ⟨e,hE⟩:∃ e:Nat,e=18446744073709551615 - d:=⟨_,rfl⟩
        have k7:IntKind.u64.wrap ((18446744073709551615:Int) - (d:Int))=(e:Int):=by rw [IntKind.wrap_u64];omega
        have k8:(e:Int).tdiv 10=(Qd:Int):=by rw [Int.tdiv_eq_ediv_of_nonneg (by omega)];omega
        have k9:IntKind.u64.wrap (Qd:Int)=(Qd:Int):=by rw [IntKind.wrap_u64];omega
        have HE:=yh hE
        have HQ:=yh hQ
        by_cases hov:Qd<acc
        ·have HNO:Hid (zBe l w (.returned (.tuple #[.int .u64 0,.bool false])) w):=⟨rfl,0,false,rfl,by omega,fun n hn h =>by
          have h1:=zDO n
          rw [← h] at h1
          have h2:=zFM (l.take (i+1)) (l.drop (i+1))
          rw [List.take_append_drop,h1,HV.out] at h2
          have:=HQ.out
          omega⟩
         have m1:decide ((Qd:Int)<(acc:Int))=true:=decide_eq_true (by omega)
         have m2:(Qd:Int)<(acc:Int):=by omega
         clear hdv hy hy2 hacc hd hE hQ hov hlo hhi
         go_wp2
         go_ret2
         exact HNO.out
        ·have m1:decide ((Qd:Int)<(acc:Int))=false:=decide_eq_false (by omega)
         have m2:¬ (Qd:Int)<(acc:Int):=by omega
         obtain ⟨z,hz⟩:∃ z,z=acc * 10+d:=⟨_,rfl⟩
         rw [← hz] at HV
         have hzl:z<18446744073709551616:=by omega
         have m3:IntKind.u64.wrap (10 * (acc:Int))=10 * (acc:Int):=by rw [IntKind.wrap_u64];omega
         have m4:IntKind.u64.wrap (10 * (acc:Int)+(d:Int))=(z:Int):=by rw [IntKind.wrap_u64];omega
         have HZL:Hid (z<18446744073709551616):=hzl
         clear hdv hy hy2 hacc hd hE hQ hov hlo hhi hz hzl
         go_wp2
         exact ⟨⟨i+1,z,by omega,rfl,by go_num,HZL.out,yh HV.out.symm,by first | trivial | rfl⟩,by simp [intOf];omega⟩
     ·obtain rfl:i=s.size:=by omega
      have HNO:Hid (zBe l w (.returned (.tuple #[.int .u64 (acc:Int),.bool true])) w):=⟨rfl,acc,true,rfl,hacc,fun n hn h =>by
       have h1:=hdv.out
       rw [List.take_of_length_le (by have:=HSZ.out;omega)] at h1
       rw [h1,h,zDO]
       exact ⟨rfl,rfl⟩⟩
      clear hdv hacc
      go_wp2
      go_ret2
      exact HNO.out
def Mt (all:Bool) (l:List UInt8) (k:Nat) (c:UInt8):Prop:=∃ m,l.drop k=sgn all c++m
theorem zIn {all:Bool} {l:List UInt8} {k:Nat} {c:UInt8}:Mt all l k c ↔ (l.take (k+(sgn all c).length)).drop k=sgn all c:=by
 constructor
 ·rintro ⟨m,hm⟩
  rw [List.drop_take,hm,show k+(sgn all c).length - k=(sgn all c).length by omega,List.take_left]
 ·intro h
  rw [List.drop_take,show k+(sgn all c).length - k=(sgn all c).length by omega] at h
  exact ⟨(l.drop k).drop (sgn all c).length,by conv =>lhs;rw [← List.take_append_drop (sgn all c).length (l.drop k),h]⟩
theorem zIo {all:Bool} {l:List UInt8} {k:Nat} {c:UInt8} (h:Mt all l k c) (hk:k≤l.length):k+(sgn all c).length≤l.length:=by
 obtain ⟨m,hm⟩:=h
 have:=congrArg List.length hm
 rw [List.length_drop,List.length_append] at this
 omega
def zIJ (all:Bool) (l acc:List UInt8) (k:Nat) (w:World) (v4 v5 v6 v7:Value) (wr:World):Prop :=
  ∃ j:Nat,j≤256∧v7=.int .i64 (j:Int)∧Below w.heap.size w wr ∧
    ((v6=.bool false∧v4=.string (tx acc)∧v5=.int .i64 (k:Int)∧∀ c:UInt8,c.toNat<j→¬ Mt all l k c) ∨
     (v6=.bool true∧∃ c:UInt8,Mt all l k c∧v4=.string (tx (acc++[c]))∧v5=.int .i64 ((k+(sgn all c).length:Nat):Int)))
def GRel (all:Bool) (l:List UInt8) (w:World) (v4 v5:Value) (wr:World):Prop :=
 ∃ (acc:List UInt8) (k:Nat),v4=.string (tx acc)∧v5=.int .i64 (k:Int)∧k≤l.length∧l.take k=acc.flatMap (sgn all)∧Below w.heap.size w wr
theorem zKc {all:Bool} {l acc:List UInt8} {k:Nat} (h:l.take k=acc.flatMap (sgn all)) (hk:k≤l.length):acc.length≤k:=by
 have h1:=congrArg List.length h
 rw [List.length_take] at h1
 have h2:∀ acc:List UInt8,acc.length≤(acc.flatMap (sgn all)).length:=by
  intro acc
  induction acc with
  | nil =>simp
  | cons b acc ih =>have:=zCd all b;simp only [List.flatMap_cons,List.length_append,List.length_cons];omega
 have:=h2 acc
 omega
theorem zCl (l:List UInt8) (hl:l.length≤5000) (w:World) :
  Calls Tryz.prog 36 #[.string (tx l)] w fun e w' =>e=.returned (.tuple #[.string (tx (eget l).1),.bool (eget l).2])∧Below w.heap.size w w':=by
 by_cases h45:l=[45]
 ·subst h45
  have h1:((tx [45]).toList == [45])=true:=by rw [zAo];decide
  have hv:eget [45]=([],true):=zGu
  rw [hv]
  go_enter Tryz.func36,Tryz.ntmps36
  go_wp2
  go_ret2
  exact ⟨rfl,Below.refl _ _⟩
 ·have h1:((tx l).toList == [45])=false:=by rw [zAo,decide_eq_false h45]
  obtain ⟨all,hall⟩:∃ all,all=allw l:=⟨_,rfl⟩
  have hall2:((tx l).toList == [92,50,100])=all:=by rw [zAo,hall];rfl
  have H0:Hid (GRel all l w (.string ⟨#[]⟩) (.int .i64 0) w):=⟨[],0,rfl,rfl,by omega,rfl,Below.refl _ _⟩
  have HALL:=yh hall
  have H45:=yh h45
  obtain ⟨n,hn⟩:∃ n,n=l.length:=⟨_,rfl⟩
  have hsz:(tx l).size=n:=by rw [zAK,hn]
  have HN:=yh hn
  have HEX:=yh (fun a b =>zAv l a b)
  rw [← hn] at hl
  generalize hs:tx l=s at *
  clear hs hall hn h45
  go_enter Tryz.func36,Tryz.ntmps36
  go_wp2
  go_loopw [4,5] (fun v4 v5 wr =>GRel all l w v4 v5 wr) (fun _ v5 _ =>n - (intOf v5).toNat)
  case atStart =>exact H0.out
  case round =>
   obtain ⟨acc,k,rfl,rfl,hk,htk,hb⟩:=hrel
   obtain ⟨wo,hwo⟩:∃ x,x=wr:=⟨wr,rfl⟩
   subst hwo
   clear H0
   rw [← HN.out] at hk
   have HTK:=yh htk
   have HB:=yh hb
   have hal:acc.length≤k:=zKc htk (by rw [← HN.out];exact hk)
   have HI:Hid (zIJ all l acc k w (.string (tx acc)) (.int .i64 (k:Int)) (.bool false) (.int .i64 0) wo):=⟨0,by omega,rfl,hb,.inl ⟨rfl,rfl,rfl,fun c h =>by omega⟩⟩
   clear htk hb
   by_cases hlt:k<n
   ·have hk0:(0:Int)≤(k:Int):=by omega
    have hk1:(k:Int)<(n:Int):=by omega
    go_wp2
    go_loopw [4,5,6,7] (fun v4 v5 v6 v7 wr =>zIJ all l acc k w v4 v5 v6 v7 wr) (fun _ _ _ v7 _ =>256 - (intOf v7).toNat)
    case atStart =>exact HI.out
    case round =>
     obtain ⟨j,hj,rfl,hbr,hcase⟩:=hrel
     clear HI
     have HBR:=yh hbr
     clear hbr
     rcases hcase with ⟨rfl,rfl,rfl,hno⟩ | ⟨rfl,c,hmt,rfl,rfl⟩
     ·by_cases hj2:j<256
      ·obtain ⟨c,hc⟩:∃ c:UInt8,c.toNat=j:=⟨UInt8.ofNat j,by simp;omega⟩
       have hsg:=fun W =>zGj c all W
       rw [hc] at hsg
       have HSG:=yh hsg
       have hml:=zCd all c
       obtain ⟨g,hg⟩:∃ g,g=sgn all c:=⟨_,rfl⟩
       obtain ⟨m,hm⟩:∃ m,m=(sgn all c).length:=⟨_,rfl⟩
       have hgs:(tx g).size=m:=by rw [zAK,hg,hm]
       have hadd:=fun W:World =>zAc (P:=Tryz.prog) W acc [c] (by simp;omega)
       have hbc:bv c=.int .u8 (j:Int):=by unfold bv;rw [hc]
       have HCV:Hid (∀ W:World,(convert 59 9 (.slice (some ⟨W.heap.size,0,none⟩) 1 1)).run Tryz.prog (W.alloc (.cells #[.int .u8 (j:Int)] 5))=.ok (.string (tx [c])) (W.alloc (.cells #[.int .u8 (j:Int)] 5))):=fun W =>by
        have h:=zDv W 5 c
        rw [hbc] at h
        exact zBK Tryz.underlying59 Tryz.underlying5 Tryz.underlying9 h
       have hj0:(0:Int)≤(j:Int):=by omega
       have hj1:(j:Int)<256:=by omega
       rw [← hg] at HSG
       rw [← hm] at hml
       have hm0:(0:Int)≤(m:Int):=by omega
       have hm3:m≤3:=hml.2
       have hm1:1≤m:=hml.1
       have HG:=yh hg
       have HM:=yh hm
       have HC:=yh hc
       have HNO:=yh hno
       by_cases hmt:Mt all l k c
       ·have hkm:k+m≤n:=by rw [hm,HN.out];exact zIo hmt (by rw [← HN.out];omega)
        have hex:s.extract k (k+m)=tx g:=by rw [HEX.out,hm,zIn.1 hmt,← hg]
        have hkm2:(k:Int)+(m:Int)≤(n:Int):=by omega
        have hsl:=zFp s k m n hsz hkm
        rw [hex] at hsl
        clear hex
        have HMT:=yh hmt
        clear hmt hno hsg hml hg hm hc hbc
        go_wp2_with (go_at_call 62;refine (HSG.out _).mono ?_;rintro e w3 ⟨rfl,hb3⟩;have HB3:=yh ((HBR.out.trans (hb3.mono HBR.out.size)).alloc (by have h1:=HBR.out.size;have h2:=hb3.size;omega) (.cells #[.int .u8 (j:Int)] 5));have hcv:=HCV.out w3;clear hb3)
        exact ⟨⟨j+1,by omega,by go_num,HB3.out,.inr ⟨rfl,c,HMT.out,rfl,by rw [← HM.out];go_num⟩⟩,by simp [intOf];omega⟩
       ·have HX:Hid (∀ c':UInt8,c'.toNat<j+1→¬ Mt all l k c'):=fun c' h =>by
         by_cases h2:c'.toNat<j
         ·exact HNO.out c' h2
         ·obtain rfl:c'=c:=UInt8.toNat_inj.1 (by rw [HC.out];omega)
          exact hmt
        by_cases hkm:k+m≤n
        ·have hq:¬ (l.take (k+m)).drop k=g:=by rw [hm,hg];exact fun h =>hmt (zIn.2 h)
         have hex:s.extract k (k+m)=tx ((l.take (k+m)).drop k):=HEX.out k (k+m)
         have hsl:=zFp s k m n hsz hkm
         rw [hex] at hsl
         clear hex
         have hqb:((tx ((l.take (k+m)).drop k)).toList == (tx g).toList)=false:=by rw [zAg (a:=g),zAo,decide_eq_false hq]
         generalize (l.take (k+m)).drop k=q at *
         have hkm2:(k:Int)+(m:Int)≤(n:Int):=by omega
         clear hmt hno hsg hml hg hm hc hbc hq
         go_wp2_with (go_at_call 62;refine (HSG.out _).mono ?_;rintro e w3 ⟨rfl,hb3⟩;have HB3:=yh (HBR.out.trans (hb3.mono HBR.out.size));clear hb3)
         exact ⟨⟨j+1,by omega,by go_num,HB3.out,.inl ⟨rfl,rfl,rfl,HX.out⟩⟩,by simp [intOf];omega⟩
        ·have hkm2:(n:Int)<(k:Int)+(m:Int):=by omega
         clear hmt hno hsg hml hg hm hc hbc
         go_wp2_with (go_at_call 62;refine (HSG.out _).mono ?_;rintro e w3 ⟨rfl,hb3⟩;have HB3:=yh (HBR.out.trans (hb3.mono HBR.out.size));clear hb3)
         exact ⟨⟨j+1,by omega,by go_num,HB3.out,.inl ⟨rfl,rfl,rfl,HX.out⟩⟩,by simp [intOf];omega⟩
      ·obtain rfl:j=256:=by omega
       have hz:Hid (eget l=([],false)):=by
        have h2:l=acc.flatMap (sgn (allw l))++l.drop k:=by rw [← HALL.out,← HTK.out,List.take_append_drop]
        refine zKg H45.out h2 ?_ ?_
        ·intro h3
         have:=congrArg List.length h3
         rw [List.length_drop,← HN.out] at this
         simp at this
         omega
        ·intro c m h3
         rw [← HALL.out] at h3
         exact hno c c.toNat_lt ⟨m,h3⟩
       clear hno
       go_wp2
       go_ret2
       exact ⟨by rw [hz.out];rfl,HBR.out⟩
     ·have hml:=zCd all c
      have hkm:k+(sgn all c).length≤n:=by rw [HN.out];exact zIo hmt (by rw [← HN.out];omega)
      have HNX:Hid (l.take (k+(sgn all c).length)=(acc++[c]).flatMap (sgn all)):=by
       obtain ⟨m,hm⟩:=hmt
       show _=_
       rw [List.take_add,HTK.out,hm,List.take_left,List.flatMap_append];simp
      obtain ⟨m,hm⟩:∃ m,m=(sgn all c).length:=⟨_,rfl⟩
      rw [← hm] at hml hkm HNX ⊢
      generalize acc++[c]=ac at *
      have hj0:(0:Int)≤(j:Int):=by omega
      clear hmt hm
      by_cases hj2:j<256
      ·have hj1:(j:Int)<256:=by omega
       go_wp2
       exact ⟨⟨ac,k+m,rfl,by go_num,by rw [← HN.out];omega,HNX.out,HBR.out⟩,by simp [intOf];omega⟩
      ·have hj1:¬ (j:Int)<256:=by omega
       go_wp2
       exact ⟨⟨ac,k+m,rfl,by go_num,by rw [← HN.out];omega,HNX.out,HBR.out⟩,by simp [intOf];omega⟩
   ·obtain rfl:k=n:=by omega
    clear HI
    rw [List.take_of_length_le (by rw [← HN.out];omega)] at HTK
    by_cases hae:acc=[]
    ·subst hae
     have hz:Hid (eget l=([],false)):=by
      have h2:l=[]:=HTK.out.trans rfl
      rw [h2];exact zJb
     have h3:(tx []).toList.isEmpty=true:=by rw [zBV];decide
     have h4:(!(tx []).toList.isEmpty)=false:=by rw [h3];rfl
     generalize ht:tx []=t at *
     have HT:=yh ht
     clear ht
     go_wp2
     go_ret2
     exact ⟨by rw [hz.out,HT.out];rfl,HB.out⟩
    ·have hz:Hid (eget l=(acc,true)):=zJc H45.out hae (by rw [← HALL.out];exact HTK.out)
     have h3:(tx acc).toList.isEmpty=false:=by rw [zBV,decide_eq_false hae]
     have h4:(!(tx acc).toList.isEmpty)=true:=by rw [h3];rfl
     generalize ht:tx acc=t at *
     have HT:=yh ht
     clear ht hae
     go_wp2
     go_ret2
     exact ⟨by rw [hz.out,HT.out];rfl,HB.out⟩
end Go.Proofs.YtgoklhoaedceaaaGreatDoor
