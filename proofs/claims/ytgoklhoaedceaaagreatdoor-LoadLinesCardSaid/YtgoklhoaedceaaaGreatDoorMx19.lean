/- Texts of one proof. -/
import Derived.Test.YtgoklhoaedceaaaGreatDoorMx18
set_option maxRecDepth 100000
set_option maxHeartbeats 8000000
namespace Go.Proofs.YtgoklhoaedceaaaGreatDoor
open Go.RowKit
theorem zDn (s:List UInt8) (c:UInt8) (j:Nat):Lib.occAt s [c] j=(s[j]? == some c):=by
 unfold Lib.occAt
 cases h:s.drop j with
 | nil =>
  have hlen:s.length≤j:=by
   have h2:=congrArg List.length h
   rw [List.length_drop,List.length_nil] at h2
   omega
  rw [List.getElem?_eq_none hlen]
  rfl
 | cons b r =>
  have hb:s[j]? = some b:=by
   have:=congrArg (fun l =>l[0]?) h
   simpa using this
  rw [hb]
  show (c == b && true)=_
  rw [Bool.and_true]
  by_cases hcb:c=b
  ·subst hcb;simp
  ·have h1:(c == b)=false:=beq_eq_false_iff_ne.2 hcb
   have h2:((some b:Option UInt8) == some c)=false:=beq_eq_false_iff_ne.2 (fun e =>hcb (Option.some.inj e).symm)
   rw [h1,h2]
theorem zEo (a b:List UInt8) (c:UInt8) (ha:a=[]∨a.getLast? = some c) (hb:c ∉ b):Lib.lastIndex (a++b) [c]+1=(a.length:Int):=by
 have hno:∀ j,a.length≤j→(a++b)[j]? ≠ some c:=fun j hj h =>by
  rw [List.getElem?_append_right hj] at h
  exact hb (List.mem_of_getElem? h)
 unfold Lib.lastIndex
 split
 ·rename_i hlen
  have hlen1:1≤(a++b).length:=by simpa using hlen
  rw [show (a++b).length - [c].length+1=(a++b).length from by simp only [List.length_singleton];omega]
  rcases Lib.lastOcc_spec (a++b) [c] (a++b).length with ⟨e,hn⟩ | ⟨i,hi,e,ho,hn⟩
  ·rw [e]
   rcases ha with rfl | ha
   ·simp
   ·exfalso
    have hp:0<a.length:=by cases a with | nil =>cases ha | cons _ _ =>simp
    have h1:=hn (a.length - 1) (by rw [List.length_append];omega)
    rw [zDn,List.getElem?_append_left (by omega)] at h1
    rw [List.getLast?_eq_getElem?] at ha
    rw [ha] at h1
    simp at h1
  ·rw [e]
   rw [zDn] at ho
   have ho2:(a++b)[i]? = some c:=by simpa using ho
   have hia:i<a.length:=by
    rcases Nat.lt_or_ge i a.length with h | h
    ·exact h
    ·exact absurd ho2 (hno i h)
   rcases ha with rfl | ha
   ·simp at hia
   ·have h1:¬ i<a.length - 1:=fun hlt =>by
     have h2:=hn (a.length - 1) hlt (by rw [List.length_append];omega)
     rw [zDn,List.getElem?_append_left (by omega)] at h2
     rw [List.getLast?_eq_getElem?] at ha
     rw [ha] at h2
     simp at h2
    omega
 ·rename_i hlen
  have h0:(a++b).length=0:=by simp only [List.length_singleton] at hlen;omega
  rw [List.length_append] at h0
  omega
theorem zGg (h k:Nat):(10:UInt8) ∉ hexl h k:=fun hm =>zEj h k hm rfl
theorem zHL (l:List UInt8):(10:UInt8) ∉ sum8 l:=fun hm =>zGg _ _ (List.mem_of_mem_drop hm)
theorem zHA:∀ (a b:List UInt8) (acc:Nat),rd acc (a++b)=(rd acc a).bind (fun n =>rd n b)
 | [],b,acc =>by rw [List.nil_append,rd];rfl
 | c :: a,b,acc =>by
  rw [List.cons_append]
  cases h:hval c with
  | none =>rw [zCH h,zCH h];rfl
  | some d =>rw [zCA h,zCA h,zHA a b]
theorem zCy:∀ (l:List UInt8) (acc n k:Nat),rd acc l=some n→∀ acc',∃ n',rd acc' (l.drop k)=some n'
 | l,acc,n,0,h,acc' =>by
  rw [List.drop_zero]
  induction l generalizing acc acc' n with
  | nil =>exact ⟨acc',by rw [rd]⟩
  | cons c l ih =>
   cases hc:hval c with
   | none =>rw [zCH hc] at h;cases h
   | some d =>
    rw [zCA hc] at h ⊢
    exact ih _ _ h _
 | [],acc,n,k+1,h,acc' =>⟨acc',by rw [List.drop_nil,rd]⟩
 | c :: l,acc,n,k+1,h,acc' =>by
  rw [List.drop_succ_cons]
  cases hc:hval c with
  | none =>rw [zCH hc] at h;cases h
  | some d =>
   rw [zCA hc] at h
   exact zCy l _ n k h acc'
theorem zFk (l:List UInt8) (acc:Nat):∃ n,rd acc (sum8 l)=some n :=
 zCy _ 0 _ 8 (zFh (crc l).toNat 16 0) acc
theorem zIb (l:List UInt8):isS ([115,117,109]++32 :: sum8 l)=true:=by
 have hp:Lib.hasPrefix ([115,117,109]++32 :: sum8 l) [115,117,109,32]=true:=by simp [Lib.hasPrefix]
 have ht:Lib.trimPrefix ([115,117,109]++32 :: sum8 l) [115,117,109,32]=sum8 l:=by
  unfold Lib.trimPrefix
  rw [hp]
  simp
 unfold isS
 rw [hp,ht]
 obtain ⟨n,hn⟩:=zFk l 0
 obtain ⟨n2,hn2⟩:=zFk l n
 unfold rans
 rw [if_pos (by rw [List.length_append,zCJ]),zHA,hn]
 show (true && (rof (rd n (sum8 l))).2)=true
 rw [hn2]
 rfl
theorem zGI (l:List UInt8) (h:l=[]∨l.getLast? = some 10):unsO (zAc l)=(l,0):=by
 have h1:Lib.hasSuffix (zAc l) [10]=true:=by unfold zAc;exact List.isSuffixOf_iff_suffix.2 (List.suffix_append _ _)
 have h2:Lib.trimSuffix (zAc l) [10]=l++([115,117,109]++32 :: sum8 l):=by
  unfold Lib.trimSuffix
  rw [h1,if_pos rfl]
  unfold zAc
  rw [List.length_append,Nat.add_sub_cancel]
  exact List.take_left
 have h3:kOf (zAc l)=l.length:=by
  unfold kOf
  rw [h2,zEo l _ 10 h (by
   intro hm
   simp only [List.cons_append,List.nil_append,List.mem_cons] at hm
   rcases hm with hm | hm | hm | hm | hm
   ·exact absurd hm (by decide)
   ·exact absurd hm (by decide)
   ·exact absurd hm (by decide)
   ·exact absurd hm (by decide)
   ·exact zHL l hm)]
  simp
 have h4:(zAc l).take l.length=l:=by unfold zAc;rw [List.append_assoc,List.take_left]
 unfold unsO
 rw [h1,h2,h3,List.drop_left,zIb,h4]
 simp
theorem ntxt:txt []=[116,101,112,104,114,97,32,48,10]:=by
 unfold txt hdT lnsT
 rw [show ([]:List Rw).length=0 from rfl,show Lib.decDigits 0=[48] from by unfold Lib.decDigits;simp]
 rfl
theorem zJc:unsO (zAc (txt []))=(txt [],0):=zGI _ (.inr (by rw [ntxt];rfl))
theorem zJk:unsO [120]=([],3):=by
 unfold unsO
 rw [show Lib.hasSuffix [120] [10]=false from by first | rfl | decide]
 rfl
theorem ncut:Lib.cut [116,101,112,104,114,97,32,48,10] [10]=([116,101,112,104,114,97,32,48],[],true):=by first | rfl | decide
theorem n22:(tx (zAc (txt []))).size=22:=by rw [zAN,zER,ntxt];rfl
theorem zEu (w:World) (hsh:w.ShapedOpen Tryz.prog) :
  Calls Tryz.prog 21 #[.string (tx (txt []))] w fun e w' =>e=.returned (.tuple #[.slice none 0 0,.int .i64 0])∧Below w.heap.size w w':=by
 have HC:Hid (Calls Tryz.prog 48 #[.string (tx (txt [])),.string { data:=#[10] }] w fun e w' =>e=.returned (.tuple #[.string (tx [116,101,112,104,114,97,32,48]),.string ⟨#[]⟩,.bool true])∧Below w.heap.size w w'):=by
  refine (Tryz.strings_Cut_shaped (tx (txt [])) { data:=#[10] } w hsh (by rw [zAN,ntxt];decide)).mono ?_
  rintro e w' ⟨rfl,n,rfl⟩
  rw [zDH,ntxt,ncut]
  exact ⟨rfl,zCU _ w _⟩
 clear hsh
 generalize tx (txt [])=T at *
 go_enter Tryz.func21,Tryz.ntmps21
 go_wp2_with fail
 refine HC.out.mono ?_
 rintro e w2 ⟨rfl,hb⟩
 have HB:=yh hb
 clear hb
 go_wp2
 go_loopw [4,6] (fun v4 v6 wr =>v4=.slice none 0 0∧v6=.string ⟨#[]⟩∧wr=w2) (fun _ _ _ =>0)
 case atStart =>exact ⟨rfl,rfl,rfl⟩
 case round =>
  obtain ⟨rfl,rfl,rfl⟩:=hrel
  go_wp2
  go_ret2
  exact ⟨rfl,HB.out⟩
theorem zDc:zBN []:=by unfold zBN Up;simp
theorem zFz (w:World) (hl:Laid w) (hp:zAs w) (hsh:w.ShapedOpen Tryz.prog) :
  Calls Tryz.prog 8 #[.string (tx (zAc (txt [])))] w fun e w' =>e=.returned (.tuple #[.slice none 0 0,.int .i64 0])∧Below w.heap.size w w':=by
 have HU:Hid (Calls Tryz.prog 20 #[.string (tx (zAc (txt [])))] w fun e w' =>e=.returned (.tuple #[.string (tx (txt [])),.int .i64 0])∧Below w.heap.size w w'):=by
  refine (zCp (zAc (txt [])) (by rw [zER,ntxt];decide) w hl).mono ?_
  rintro e w' ⟨rfl,hb⟩
  rw [zJc]
  exact ⟨rfl,hb⟩
 have HT:=yh (fun (W:World) (hb:Below w.heap.size w W) =>zEu W (zBG hsh hb))
 have HD:=yh (fun (W:World) (hb:Below w.heap.size w W) =>zEA none 0 0 [] (by decide) (by simp) W (hl.below hb) (hp.below hb) (Recs.nil W W.heap.size none))
 have HOK:Hid (OkT []):=⟨zDc,by simp⟩
 clear hl hp hsh
 generalize tx (txt [])=H at *
 generalize hS:tx (zAc (txt []))=S at HU
 have HE:Hid ((S.toList != S.toList)=false):=by show _=_;simp
 go_enter Tryz.func8,Tryz.ntmps8
 go_wp2_with fail
 refine HU.out.mono ?_
 rintro e w1 ⟨rfl,hb1⟩
 have HB1:=yh hb1
 clear hb1
 go_wp2_with fail
 refine (HT.out _ HB1.out).mono ?_
 rintro e w2 ⟨rfl,hb2⟩
 have HB2:=yh (HB1.out.trans (hb2.mono HB1.out.size))
 clear hb2 HB1
 go_wp2_with fail
 refine (HD.out _ HB2.out).mono ?_
 rintro e w3 ⟨he,hb3⟩
 have HB3:=yh (HB2.out.trans (hb3.mono HB2.out.size))
 clear hb3 HB2
 obtain rfl:e=.returned (.tuple #[.string S,.int .i64 0]):=by
  rcases he with ⟨_,he⟩ | ⟨hn,_⟩
  ·rw [he,hS]
  ·exact absurd HOK.out hn
 clear he hS
 go_wp2
 go_ret2
 exact ⟨rfl,HB3.out⟩
theorem zIg (w:World) (hl:Laid w) :
  Calls Tryz.prog 8 #[.string { data:=#[120] }] w fun e w' =>e=.returned (.tuple #[.slice none 0 0,.int .i64 3])∧Below w.heap.size w w':=by
 have HU:Hid (Calls Tryz.prog 20 #[.string { data:=#[120] }] w fun e w' =>e=.returned (.tuple #[.string ⟨#[]⟩,.int .i64 3])∧Below w.heap.size w w'):=by
  refine (zCp [120] (by decide) w hl).mono ?_
  rintro e w' ⟨rfl,hb⟩
  rw [zJk]
  exact ⟨rfl,hb⟩
 clear hl
 go_enter Tryz.func8,Tryz.ntmps8
 go_wp2_with fail
 refine HU.out.mono ?_
 rintro e w1 ⟨rfl,hb1⟩
 go_wp2
 go_ret2
 exact ⟨rfl,hb1⟩
theorem zFw (w:World) (hl:Laid w) (hp:zAs w) (hsh:w.ShapedOpen Tryz.prog) :
  Calls Tryz.prog 7 #[] w fun e w' =>e=.returned (.bool true)∧Below w.heap.size w w':=by
 have HN:=yh n22
 have HOK:Hid (OkT []):=⟨zDc,by simp⟩
 have HD:=yh (zEA none 0 0 [] (by decide) (by simp) w hl hp (Recs.nil w w.heap.size none))
 have HT:=yh (fun (W:World) (hb:Below w.heap.size w W) =>zFz W (hl.below hb) (hp.below hb) (zBG hsh hb))
 have HX:=yh (fun (W:World) (hb:Below w.heap.size w W) =>zIg W (hl.below hb))
 clear hl hp hsh
 generalize hS:tx (zAc (txt []))=S at HT HN
 have hsz:(S.size:Int)=22:=by rw [HN.out];rfl
 go_enter Tryz.func7,Tryz.ntmps7
 go_wp2_with fail
 refine HD.out.mono ?_
 rintro e w3 ⟨he,hb3⟩
 have HB3:=yh hb3
 clear hb3
 obtain rfl:e=.returned (.tuple #[.string S,.int .i64 0]):=by
  rcases he with ⟨_,he⟩ | ⟨hn,_⟩
  ·rw [he,hS]
  ·exact absurd HOK.out hn
 clear he hS
 go_wp2_with fail
 refine (HT.out _ HB3.out).mono ?_
 rintro e w1 ⟨rfl,hb1⟩
 have HB1:=yh (HB3.out.trans (hb1.mono HB3.out.size))
 clear hb1
 go_wp2_with fail
 refine (HX.out _ HB1.out).mono ?_
 rintro e w2 ⟨rfl,hb2⟩
 have HB2:=yh (HB1.out.trans (hb2.mono HB1.out.size))
 clear hb2
 go_wp2
 go_ret
 exact ⟨rfl,HB2.out⟩
theorem zHg {x:UInt8} (h1:48≤x.toNat) (h2:x.toNat≤57):hval x=some (x.toNat - 48):=by rw [hval,if_pos ⟨h1,h2⟩]
theorem zGh {x:UInt8} (h1:97≤x.toNat) (h2:x.toNat≤102):hval x=some (x.toNat - 87):=by rw [hval,if_neg (by omega),if_pos ⟨h1,h2⟩]
theorem zGi {x:UInt8} (h1:¬ (48≤x.toNat∧x.toNat≤57)) (h2:¬ (97≤x.toNat∧x.toNat≤102)):hval x=none:=by rw [hval,if_neg h1,if_neg h2]
theorem zBd (bs:List UInt8) (hn:bs.length≤1073741824) (w:World) :
  Calls Tryz.prog 23 #[.string (tx bs)] w fun e w' =>e=.returned (rav (rans bs).1 (rans bs).2)∧w=w':=by
 obtain ⟨s,hs⟩:∃ s,s=tx bs:=⟨_,rfl⟩
 have hsz:s.size=bs.length:=by rw [hs,zAN]
 rw [← hs]
 by_cases h16:bs.length=16
 ·have hsz16:s.size=16:=by omega
  have HR:Hid (rans bs=rof (rd 0 bs)):=by rw [rans,if_pos h16];rfl
  have HS:=yh hs
  have H0:DRel bs w (.int .u64 0) (.int .i64 0) w:=⟨0,0,by omega,rfl,by decide,rfl,rfl,rfl⟩
  have HL:=yh h16
  clear hs hsz hn h16
  go_enter Tryz.func23,Tryz.ntmps23
  go_wp2
  go_loopw [4,5] (fun v idx wr =>DRel bs w v idx wr) (fun v idx wr =>16 - (intOf idx).toNat)
  case atStart =>exact H0
  case round =>
   obtain ⟨i,acc,hi,rfl,hacc,rfl,hrd,rfl⟩:=hrel
   clear H0
   by_cases hlt:i<16
   ·obtain ⟨x,hx,hd⟩:=zDl HS.out i (by omega)
    have hroom:=zFC hlt hacc
    rw [hd] at hrd
    have hv256:=x.toNat_lt
    by_cases hA:48≤x.toNat∧x.toNat≤57
    ·have hv:=zHg hA.1 hA.2
     have hnx:=hrd
     rw [zCA hv] at hnx
     have hpn:=zDS hacc (zBi hv)
     obtain ⟨d,hdd⟩:∃ d,d=x.toNat - 48:=⟨_,rfl⟩
     rw [← hdd] at hnx hpn
     have hd16:d≤9:=by omega
     obtain ⟨z,hz⟩:∃ z,z=16 * acc+d:=⟨_,rfl⟩
     rw [← hz] at hnx hpn
     have HP:=yh hpn
     have hv1:48≤x.toNat:=hA.1
     have hv2:x.toNat≤57:=hA.2
     rw [hx] at hdd hv1 hv2
     have k1:IntKind.u8.wrap ((s[i].toNat:Int) - 48)=(d:Int):=by rw [IntKind.wrap_u8'];omega
     have k2:IntKind.u64.wrap (16 * (acc:Int))=16 * (acc:Int):=by rw [IntKind.wrap_u64];omega
     have k3:IntKind.u64.wrap (16 * (acc:Int)+(d:Int))=(z:Int):=by rw [IntKind.wrap_u64];omega
     have k4:IntKind.u64.wrap (d:Int)=(d:Int):=zBv d (by omega)
     have k5:decide ((97:Int)≤(s[i].toNat:Int))=false:=decide_eq_false (by omega)
     have k6:((d:Int) == 99)=false:=beq_false_of_ne (by omega)
     clear hA hv hrd hpn hdd hz hd hx hacc hroom hv256
     obtain ⟨v,hv⟩:∃ v,s[i].toNat=v:=⟨_,rfl⟩
     rw [hv] at k1 k5 hv1 hv2
     go_wp2
     exact ⟨⟨i+1,z,by omega,rfl,HP.out,by go_num,hnx,rfl⟩,by simp [intOf];omega⟩
    ·by_cases hB:97≤x.toNat∧x.toNat≤102
     ·have hv:=zGh hB.1 hB.2
      have hnx:=hrd
      rw [zCA hv] at hnx
      have hpn:=zDS hacc (zBi hv)
      obtain ⟨d,hdd⟩:∃ d,d=x.toNat - 97:=⟨_,rfl⟩
      rw [show x.toNat - 87=d+10 by omega] at hnx hpn
      have hd16:d≤5:=by omega
      obtain ⟨z,hz⟩:∃ z,z=16 * acc+(d+10):=⟨_,rfl⟩
      rw [← hz] at hnx hpn
      have HP:=yh hpn
      have hv1:97≤x.toNat:=hB.1
      have hv2:x.toNat≤102:=hB.2
      rw [hx] at hdd hv1 hv2
      have k1:IntKind.u8.wrap ((s[i].toNat:Int) - 97)=(d:Int):=by rw [IntKind.wrap_u8'];omega
      have k2:IntKind.u64.wrap (16 * (acc:Int))=16 * (acc:Int):=by rw [IntKind.wrap_u64];omega
      have k3:IntKind.u64.wrap (16 * (acc:Int)+((d:Int)+10))=(z:Int):=by rw [IntKind.wrap_u64];omega
      have k4:IntKind.u64.wrap (d:Int)=(d:Int):=zBv d (by omega)
      have k5:IntKind.u64.wrap ((d:Int)+10)=(d:Int)+10:=by rw [IntKind.wrap_u64];omega
      have k6:(((d:Int)+10) == 99)=false:=beq_false_of_ne (by omega)
      clear hA hB hv hrd hpn hdd hz hd hx hacc hroom hv256
      obtain ⟨v,hv⟩:∃ v,s[i].toNat=v:=⟨_,rfl⟩
      rw [hv] at k1 hv1 hv2
      go_wp2
      exact ⟨⟨i+1,z,by omega,rfl,HP.out,by go_num,hnx,rfl⟩,by simp [intOf];omega⟩
     ·have hz:rans bs=(0,false):=by rw [HR.out,hrd.out,zCH (zGi hA hB),rof]
      have HZ:=yh hz
      rw [hx] at hA hB
      clear hz hrd hd hx hacc hroom hv256
      obtain ⟨v,hv⟩:∃ v,s[i].toNat=v:=⟨_,rfl⟩
      rw [hv] at hA hB
      have hways:v<48∨(57<v∧v<97)∨102<v:=by omega
      clear hA hB
      rcases hways with h | ⟨h,h'⟩ | h
      all_goals
       go_wp2
       go_ret2
       exact ⟨by rw [HZ.out];rfl,rfl⟩
   ·obtain rfl:i=16:=by omega
    have hz:rans bs=(acc,true):=by rw [HR.out,hrd.out,List.drop_eq_nil_of_le (by rw [HL.out];omega),rd,rof]
    have HZ:=yh hz
    clear hz hrd
    go_wp2
    go_ret2
    exact ⟨by rw [HZ.out];rfl,rfl⟩
 ·have hsz16:¬ s.size=16:=by omega
  have hz:rans bs=(0,false):=by rw [rans,if_neg h16]
  have HZ:=yh hz
  have hs2:s.size≤1073741824:=by omega
  clear hs hsz hn hz h16
  go_enter Tryz.func23,Tryz.ntmps23
  go_wp2
  go_ret2
  exact ⟨by rw [HZ.out];rfl,rfl⟩
theorem zBy (z:Nat):∀ b ∈ Lib.decDigits z,48≤b.toNat∧b.toNat≤57:=by
 induction z using Nat.strongRecOn with
 | _ z ih =>
  have hd:∀ m,m<10→48≤(UInt8.ofNat (48+m)).toNat∧(UInt8.ofNat (48+m)).toNat≤57:=fun m hm =>by
   have:∀ k:Fin 10,48≤(UInt8.ofNat (48+k.val)).toNat∧(UInt8.ofNat (48+k.val)).toNat≤57:=by decide
   exact this ⟨m,hm⟩
  intro b hb
  by_cases h:z<10
  ·rw [zAX h] at hb
   obtain rfl:=List.mem_singleton.1 hb
   exact hd z h
  ·rw [zBh h] at hb
   rcases List.mem_append.1 hb with hb | hb
   ·exact ih (z / 10) (by omega) b hb
   ·exact ih (z % 10) (by omega) b hb
theorem zHT (z:Nat) (hz:0<z):∀ c r,Lib.decDigits z=c :: r→c.toNat≠48:=by
 induction z using Nat.strongRecOn with
 | _ z ih =>
  intro c r e
  by_cases h:z<10
  ·rw [zAX h] at e
   injection e with e _
   subst e
   have:∀ k:Fin 10,0<k.val→(UInt8.ofNat (48+k.val)).toNat≠48:=by decide
   exact this ⟨z,h⟩ hz
  ·rw [zBh h] at e
   cases e2:Lib.decDigits (z / 10) with
   | nil =>exact absurd e2 (zEc _)
   | cons c2 r2 =>
    rw [e2] at e
    injection e with e _
    subst e
    exact ih (z / 10) (by omega) (by omega) _ _ e2
theorem zHU {z:Nat} {c:UInt8} {r:List UInt8} (h:Lib.decDigits z=c :: r) (hc:c.toNat=48):r=[]:=by
 rcases Nat.eq_zero_or_pos z with rfl | hz
 ·rw [zAX (by omega)] at h
  injection h with _ h
  exact h.symm
 ·exact absurd hc (zHT z hz c r h)
theorem zDy (l:List UInt8) (b:UInt8):decV (l++[b])=decV l * 10+(b.toNat - 48):=by unfold decV;rw [List.foldl_append];rfl
theorem zDx (l m:List UInt8):decV l≤decV (l++m):=by
 have key:∀ (m:List UInt8) (n:Nat),n≤m.foldl (fun n b =>n * 10+(b.toNat - 48)) n:=by
  intro m
  induction m with
  | nil =>intro n;exact Nat.le_refl _
  | cons b m ih =>intro n;exact Nat.le_trans (by show n≤n * 10+(b.toNat - 48);omega) (ih _)
 unfold decV
 rw [List.foldl_append]
 exact key m _
theorem zDh {bs:List UInt8} {s:ByteArray} (hs:s=tx bs) (k:Nat) (h:k<s.size):∃ x:UInt8,x.toNat=s[k].toNat∧bs[k]? = some x:=by
 obtain ⟨x,hx,hd⟩:=zDl hs k h
 refine ⟨x,hx,?_⟩
 have:=congrArg (fun l =>l[0]?) hd
 simpa using this
def zBR (l:List UInt8) (w:World) (e:Ending) (w':World):Prop:=w'=w∧∃ (z:Nat) (b:Bool),e=.returned (.tuple #[.int .u64 (z:Int),.bool b])∧z<18446744073709551616∧∀ n,n<18446744073709551616→l=Lib.decDigits n→z=n∧b=true
theorem zFU (l:List UInt8) (hl:l.length≤5000) (w:World) :
  Calls Tryz.prog 37 #[.string (tx l)] w (zBR l w):=by
 by_cases h0:l=[]
 ·subst h0
  have he:((tx []).toList == ([]:List UInt8))=true:=by rw [zAb];decide
  have HN:Hid (zBR [] w (.returned (.tuple #[.int .u64 0,.bool false])) w):=⟨rfl,0,false,rfl,by omega,fun n _ h =>absurd h.symm (zEc n)⟩
  go_enter Tryz.func37,Tryz.ntmps37
  go_wp2
  go_ret2
  exact HN.out
 ·have he:((tx l).toList == ([]:List UInt8))=false:=by rw [zAb,decide_eq_false h0]
  obtain ⟨c,r,hcr⟩:∃ c r,l=c :: r:=by cases l with | nil =>exact absurd rfl h0 | cons c r =>exact ⟨c,r,rfl⟩
  obtain ⟨s,hs⟩:∃ s,s=tx l:=⟨_,rfl⟩
  have hsz:s.size=l.length:=by rw [hs,zAN]
  rw [← hs] at he ⊢
  have hs1:0<s.size:=by rw [hsz,hcr];simp
  obtain ⟨x,hx,hx2⟩:=zDh hs 0 hs1
  obtain rfl:x=c:=by rw [hcr] at hx2;exact (Option.some.inj hx2).symm
  by_cases hz:1<s.size∧x.toNat=48
  ·have HN:Hid (zBR l w (.returned (.tuple #[.int .u64 0,.bool false])) w):=⟨rfl,0,false,rfl,by omega,fun n _ h =>by
    have h1:=zHU (h.symm.trans hcr) hz.2
    rw [hsz,hcr,h1] at hz
    simp at hz⟩
   have g1:decide ((1:Int)<(s.size:Int))=true:=decide_eq_true (by omega)
   have g2:s[0].toNat=48:=by rw [← hx];exact hz.2
   have g3:(1:Int)<(s.size:Int):=by omega
   have g4:(0:Int)<(s.size:Int):=by omega
   clear hs hsz hx hx2 hz h0 hcr hl
   go_enter Tryz.func37,Tryz.ntmps37
   go_wp2
   go_ret2
   exact HN.out
  ·have HS:=yh hs
   have HSZ:=yh hsz
   have hs5:s.size≤5000:=by omega
   by_cases h1:1<s.size
   ·have g1:decide ((1:Int)<(s.size:Int))=true:=decide_eq_true (by omega)
    have g2:¬ s[0].toNat=48:=by rw [← hx];exact fun h =>hz ⟨h1,h⟩
    have g2':((s[0].toNat:Int) == 48)=false:=beq_false_of_ne (by omega)
    have g3:(1:Int)<(s.size:Int):=by omega
    have g4:(0:Int)<(s.size:Int):=by omega
    clear hs hsz hx hx2 hz h0 hcr hl h1
    go_enter Tryz.func37,Tryz.ntmps37
    go_wp2
    go_loopw [4,5] (fun v4 v5 wr =>∃ i acc:Nat,i≤s.size∧v4=.int .u64 (acc:Int)∧v5=.int .i64 (i:Int)∧acc<18446744073709551616∧Hid (acc=decV (l.take i))∧w=wr) (fun _ v5 _ =>s.size - (intOf v5).toNat)
    case atStart =>exact ⟨0,0,by omega,rfl,rfl,by omega,yh (by simp [decV]),rfl⟩
    case round =>
     obtain ⟨i,acc,hi,rfl,rfl,hacc,hdv,rfl⟩:=hrel
     clear g4
     by_cases hlt:i<s.size
     ·obtain ⟨y,hy,hy2⟩:=zDh HS.out i hlt
      have HY:=yh hy2
      have hi0:(0:Int)≤(i:Int):=by omega
      have hi1:(i:Int)<(s.size:Int):=by omega
      have hy256:=y.toNat_lt
      have HIN:Hid (y ∈ l):=List.mem_of_getElem? hy2
      have HV:Hid (decV (l.take (i+1))=acc * 10+(y.toNat - 48)):=by
       rw [List.take_add_one,hy2,hdv.out]
       exact yh (zDy _ _)
      by_cases hlo:y.toNat<48
      ·have HNO:Hid (zBR l w (.returned (.tuple #[.int .u64 0,.bool false])) w):=⟨rfl,0,false,rfl,by omega,fun n _ h =>by
        have:=zBy n y (h▸HIN.out);omega⟩
       rw [hy] at hlo hy256
       obtain ⟨v,hv⟩:∃ v,s[i].toNat=v:=⟨_,rfl⟩
       rw [hv] at hlo hy256
       have k1:decide ((v:Int)<48)=true:=decide_eq_true (by omega)
       have k2:(v:Int)<48:=by omega
       clear hdv hy hy2 hacc
       go_wp2
       go_ret2
       exact HNO.out
      ·by_cases hhi:57<y.toNat
       ·have HNO:Hid (zBR l w (.returned (.tuple #[.int .u64 0,.bool false])) w):=⟨rfl,0,false,rfl,by omega,fun n _ h =>by
         have:=zBy n y (h▸HIN.out);omega⟩
        rw [hy] at hlo hy256 hhi
        obtain ⟨v,hv⟩:∃ v,s[i].toNat=v:=⟨_,rfl⟩
        rw [hv] at hlo hy256 hhi
        have k1:decide ((v:Int)<48)=false:=decide_eq_false (by omega)
        have k2:¬ (v:Int)<48:=by omega
        have k3:decide ((57:Int)<(v:Int))=true:=decide_eq_true (by omega)
        have k4:(57:Int)<(v:Int):=by omega
        clear hdv hy hy2 hacc
        go_wp2
        go_ret2
        exact HNO.out
       ·obtain ⟨d,hd⟩:∃ d,d=y.toNat - 48:=⟨_,rfl⟩
        obtain ⟨Qd,hQ⟩:∃ Qd,Qd=(18446744073709551615 - d) / 10:=⟨_,rfl⟩
        rw [← hd] at HV
        have hd9:d≤9:=by omega
        rw [hy] at hlo hhi hd
        obtain ⟨v,hv⟩:∃ v,s[i].toNat=v:=⟨_,rfl⟩
        rw [hv] at hlo hhi hd
        have k1:decide ((v:Int)<48)=false:=decide_eq_false (by omega)
        have k2:¬ (v:Int)<48:=by omega
        have k3:decide ((57:Int)<(v:Int))=false:=decide_eq_false (by omega)
        have k4:¬ (57:Int)<(v:Int):=by omega
        have k5:IntKind.u8.wrap ((v:Int) - 48)=(d:Int):=by rw [IntKind.wrap_u8'];omega
        have k6:IntKind.u64.wrap (d:Int)=(d:Int):=by rw [IntKind.wrap_u64];omega
        obtain ⟨e,hE⟩:∃ e:Nat,e=18446744073709551615 - d:=⟨_,rfl⟩
        have k7:IntKind.u64.wrap ((18446744073709551615:Int) - (d:Int))=(e:Int):=by rw [IntKind.wrap_u64];omega
        have k8:(e:Int).tdiv 10=(Qd:Int):=by rw [Int.tdiv_eq_ediv_of_nonneg (by omega)];omega
        have k9:IntKind.u64.wrap (Qd:Int)=(Qd:Int):=by rw [IntKind.wrap_u64];omega
        have HE:=yh hE
        have HQ:=yh hQ
        by_cases hov:Qd<acc
        ·have HNO:Hid (zBR l w (.returned (.tuple #[.int .u64 0,.bool false])) w):=⟨rfl,0,false,rfl,by omega,fun n hn h =>by
          have h1:=zCe n
          rw [← h] at h1
          have h2:=zDx (l.take (i+1)) (l.drop (i+1))
          rw [List.take_append_drop,h1,HV.out] at h2
          have:=HQ.out
          omega⟩
         have m1:decide ((Qd:Int)<(acc:Int))=true:=decide_eq_true (by omega)
         have m2:(Qd:Int)<(acc:Int):=by omega
         clear hdv hy hy2 hacc hd hE hQ hov hlo hhi
         go_wp2
         go_ret2
         exact HNO.out
        ·have m1:decide ((Qd:Int)<(acc:Int))=false:=decide_eq_false (by omega)
         have m2:¬ (Qd:Int)<(acc:Int):=by omega
         obtain ⟨z,hz⟩:∃ z,z=acc * 10+d:=⟨_,rfl⟩
         rw [← hz] at HV
         have hzl:z<18446744073709551616:=by omega
         have m3:IntKind.u64.wrap (10 * (acc:Int))=10 * (acc:Int):=by rw [IntKind.wrap_u64];omega
         have m4:IntKind.u64.wrap (10 * (acc:Int)+(d:Int))=(z:Int):=by rw [IntKind.wrap_u64];omega
         have HZL:Hid (z<18446744073709551616):=hzl
         clear hdv hy hy2 hacc hd hE hQ hov hlo hhi hz hzl
         go_wp2
         exact ⟨⟨i+1,z,by omega,rfl,by go_num,HZL.out,yh HV.out.symm,by first | trivial | rfl⟩,by simp [intOf];omega⟩
     ·obtain rfl:i=s.size:=by omega
      have HNO:Hid (zBR l w (.returned (.tuple #[.int .u64 (acc:Int),.bool true])) w):=⟨rfl,acc,true,rfl,hacc,fun n hn h =>by
       have h1:=hdv.out
       rw [List.take_of_length_le (by have:=HSZ.out;omega)] at h1
       rw [h1,h,zCe]
       exact ⟨rfl,rfl⟩⟩
      clear hdv hacc
      go_wp2
      go_ret2
      exact HNO.out
   ·have g1:decide ((1:Int)<(s.size:Int))=false:=decide_eq_false (by omega)
    have g3:¬ (1:Int)<(s.size:Int):=by omega
    have g4:(0:Int)<(s.size:Int):=by omega
    clear hs hsz hx hx2 hz h0 hcr hl h1
    go_enter Tryz.func37,Tryz.ntmps37
    go_wp2
    go_loopw [4,5] (fun v4 v5 wr =>∃ i acc:Nat,i≤s.size∧v4=.int .u64 (acc:Int)∧v5=.int .i64 (i:Int)∧acc<18446744073709551616∧Hid (acc=decV (l.take i))∧w=wr) (fun _ v5 _ =>s.size - (intOf v5).toNat)
    case atStart =>exact ⟨0,0,by omega,rfl,rfl,by omega,yh (by simp [decV]),rfl⟩
    case round =>
     obtain ⟨i,acc,hi,rfl,rfl,hacc,hdv,rfl⟩:=hrel
     clear g4
     by_cases hlt:i<s.size
     ·obtain ⟨y,hy,hy2⟩:=zDh HS.out i hlt
      have HY:=yh hy2
      have hi0:(0:Int)≤(i:Int):=by omega
      have hi1:(i:Int)<(s.size:Int):=by omega
      have hy256:=y.toNat_lt
      have HIN:Hid (y ∈ l):=List.mem_of_getElem? hy2
      have HV:Hid (decV (l.take (i+1))=acc * 10+(y.toNat - 48)):=by
       rw [List.take_add_one,hy2,hdv.out]
       exact yh (zDy _ _)
      by_cases hlo:y.toNat<48
      ·have HNO:Hid (zBR l w (.returned (.tuple #[.int .u64 0,.bool false])) w):=⟨rfl,0,false,rfl,by omega,fun n _ h =>by
        have:=zBy n y (h▸HIN.out);omega⟩
       rw [hy] at hlo hy256
       obtain ⟨v,hv⟩:∃ v,s[i].toNat=v:=⟨_,rfl⟩
       rw [hv] at hlo hy256
       have k1:decide ((v:Int)<48)=true:=decide_eq_true (by omega)
       have k2:(v:Int)<48:=by omega
       clear hdv hy hy2 hacc
       go_wp2
       go_ret2
       exact HNO.out
      ·by_cases hhi:57<y.toNat
       ·have HNO:Hid (zBR l w (.returned (.tuple #[.int .u64 0,.bool false])) w):=⟨rfl,0,false,rfl,by omega,fun n _ h =>by
         have:=zBy n y (h▸HIN.out);omega⟩
        rw [hy] at hlo hy256 hhi
        obtain ⟨v,hv⟩:∃ v,s[i].toNat=v:=⟨_,rfl⟩
        rw [hv] at hlo hy256 hhi
        have k1:decide ((v:Int)<48)=false:=decide_eq_false (by omega)
        have k2:¬ (v:Int)<48:=by omega
        have k3:decide ((57:Int)<(v:Int))=true:=decide_eq_true (by omega)
        have k4:(57:Int)<(v:Int):=by omega
        clear hdv hy hy2 hacc
        go_wp2
        go_ret2
        exact HNO.out
       ·obtain ⟨d,hd⟩:∃ d,d=y.toNat - 48:=⟨_,rfl⟩
        obtain ⟨Qd,hQ⟩:∃ Qd,Qd=(18446744073709551615 - d) / 10:=⟨_,rfl⟩
        rw [← hd] at HV
        have hd9:d≤9:=by omega
        rw [hy] at hlo hhi hd
        obtain ⟨v,hv⟩:∃ v,s[i].toNat=v:=⟨_,rfl⟩
        rw [hv] at hlo hhi hd
        have k1:decide ((v:Int)<48)=false:=decide_eq_false (by omega)
        have k2:¬ (v:Int)<48:=by omega
        have k3:decide ((57:Int)<(v:Int))=false:=decide_eq_false (by omega)
        have k4:¬ (57:Int)<(v:Int):=by omega
        have k5:IntKind.u8.wrap ((v:Int) - 48)=(d:Int):=by rw [IntKind.wrap_u8'];omega
        have k6:IntKind.u64.wrap (d:Int)=(d:Int):=by rw [IntKind.wrap_u64];omega
        obtain ⟨e,hE⟩:∃ e:Nat,e=18446744073709551615 - d:=⟨_,rfl⟩
        have k7:IntKind.u64.wrap ((18446744073709551615:Int) - (d:Int))=(e:Int):=by rw [IntKind.wrap_u64];omega
        have k8:(e:Int).tdiv 10=(Qd:Int):=by rw [Int.tdiv_eq_ediv_of_nonneg (by omega)];omega
        have k9:IntKind.u64.wrap (Qd:Int)=(Qd:Int):=by rw [IntKind.wrap_u64];omega
        have HE:=yh hE
        have HQ:=yh hQ
        by_cases hov:Qd<acc
        ·have HNO:Hid (zBR l w (.returned (.tuple #[.int .u64 0,.bool false])) w):=⟨rfl,0,false,rfl,by omega,fun n hn h =>by
          have h1:=zCe n
          rw [← h] at h1
          have h2:=zDx (l.take (i+1)) (l.drop (i+1))
          rw [List.take_append_drop,h1,HV.out] at h2
          have:=HQ.out
          omega⟩
         have m1:decide ((Qd:Int)<(acc:Int))=true:=decide_eq_true (by omega)
         have m2:(Qd:Int)<(acc:Int):=by omega
         clear hdv hy hy2 hacc hd hE hQ hov hlo hhi
         go_wp2
         go_ret2
         exact HNO.out
        ·have m1:decide ((Qd:Int)<(acc:Int))=false:=decide_eq_false (by omega)
         have m2:¬ (Qd:Int)<(acc:Int):=by omega
         obtain ⟨z,hz⟩:∃ z,z=acc * 10+d:=⟨_,rfl⟩
         rw [← hz] at HV
         have hzl:z<18446744073709551616:=by omega
         have m3:IntKind.u64.wrap (10 * (acc:Int))=10 * (acc:Int):=by rw [IntKind.wrap_u64];omega
         have m4:IntKind.u64.wrap (10 * (acc:Int)+(d:Int))=(z:Int):=by rw [IntKind.wrap_u64];omega
         have HZL:Hid (z<18446744073709551616):=hzl
         clear hdv hy hy2 hacc hd hE hQ hov hlo hhi hz hzl
         go_wp2
         exact ⟨⟨i+1,z,by omega,rfl,by go_num,HZL.out,yh HV.out.symm,by first | trivial | rfl⟩,by simp [intOf];omega⟩
     ·obtain rfl:i=s.size:=by omega
      have HNO:Hid (zBR l w (.returned (.tuple #[.int .u64 (acc:Int),.bool true])) w):=⟨rfl,acc,true,rfl,hacc,fun n hn h =>by
       have h1:=hdv.out
       rw [List.take_of_length_le (by have:=HSZ.out;omega)] at h1
       rw [h1,h,zCe]
       exact ⟨rfl,rfl⟩⟩
      clear hdv hacc
      go_wp2
      go_ret2
      exact HNO.out
end Go.Proofs.YtgoklhoaedceaaaGreatDoor
