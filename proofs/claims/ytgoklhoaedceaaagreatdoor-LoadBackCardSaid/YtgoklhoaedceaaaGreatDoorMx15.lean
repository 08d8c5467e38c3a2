/- Texts of one proof. -/
import Derived.Sort.Walk0
import Derived.WalkLawsBesides
import Derived.Test.YtgoklhoaedceaaaGreatDoorMx14
set_option maxRecDepth 100000
set_option maxHeartbeats 8000000
namespace Go.Proofs.YtgoklhoaedceaaaGreatDoor
open Go.RowKit
theorem zGU:∀ (p a b:List UInt8),p++a<p++b ↔ a<b
 | [],_,_ =>Iff.rfl
 | x :: p,a,b =>by
  rw [List.cons_append,List.cons_append,List.cons_lt_cons_iff,zGU p]
  simp [UInt8.lt_irrefl]
theorem zGV {a:List UInt8} {i:Nat} {x:UInt8} (h:a[i]? = some x):a=a.take i++x :: a.drop (i+1):=by
 obtain ⟨h1,h2⟩:=List.getElem?_eq_some_iff.1 h
 rw [← h2,List.getElem_cons_drop,List.take_append_drop]
theorem zLk {a b:List UInt8} {i:Nat} {x y:UInt8} (h:a.take i=b.take i) (ha:a[i]? = some x) (hb:b[i]? = some y) (hne:x≠y):a<b ↔ x<y:=by
 rw [zGV ha,zGV hb,h,zGU,List.cons_lt_cons_iff]
 simp [hne]
theorem zIl {a b:List UInt8} {i:Nat} (h:a.take i=b.take i) (hi:a.length≤i∨b.length≤i) (ha:i≤a.length) (hb:i≤b.length):a<b ↔ a.length<b.length:=by
 have e1:a=a.take i++a.drop i:=(List.take_append_drop i a).symm
 have e2:b=a.take i++b.drop i:=by rw [h];exact (List.take_append_drop i b).symm
 have e3:a<b ↔ a.drop i<b.drop i:=by
  conv =>lhs;rw [e1,e2]
  exact zGU _ _ _
 rw [e3]
 rcases Nat.lt_or_ge i a.length with h1 | h1
 ·have:b.drop i=[]:=List.drop_of_length_le (by omega)
  rw [this]
  constructor
  ·intro h2;exact absurd h2 (List.not_lt_nil _)
  ·intro h2;omega
 ·have e4:a.drop i=[]:=List.drop_of_length_le (by omega)
  rw [e4]
  rcases Nat.lt_or_ge i b.length with h2 | h2
  ·obtain ⟨y,hy⟩:∃ y,b[i]? = some y:=⟨_,List.getElem?_eq_getElem h2⟩
   have:b.drop i=y :: b.drop (i+1):=by
    obtain ⟨h3,h4⟩:=List.getElem?_eq_some_iff.1 hy
    rw [← h4,List.getElem_cons_drop]
   rw [this]
   constructor
   ·intro _;omega
   ·intro _;exact List.nil_lt_cons _ _
  ·have:b.drop i=[]:=List.drop_of_length_le (by omega)
   rw [this]
   constructor
   ·intro h3;exact absurd h3 (zEq _)
   ·intro h3;omega
theorem zIk (l:List UInt8) (i:Nat) (x:UInt8) (h:l[i]? = some x) (hp:i<(tx l).size):(((tx l)[i]'hp).toNat:Int)=(x.toNat:Int):=by
 obtain ⟨h1,h2⟩:=List.getElem?_eq_some_iff.1 h
 rw [← h2]
 rfl
theorem zDu {a b:Bool} (h:a=b):Ending.returned (.bool a)=.returned (.bool b):=by rw [h]
theorem zET (a b:List UInt8) (ha:a.length≤maxLen) (hb:b.length≤maxLen) (w:World) :
  Calls Tryz.prog 74 #[rsv a,rsv b] w fun e w' =>e=.returned (.bool (decide (a<b)))∧∃ q,w'=w.drewN q:=by
 unfold rsv
 obtain ⟨n,hn⟩:∃ n,n=a.length:=⟨_,rfl⟩
 obtain ⟨m,hm⟩:∃ m,m=b.length:=⟨_,rfl⟩
 have hs1:(tx a).size=n:=by rw [zAk,hn]
 have hs2:(tx b).size=m:=by rw [zAk,hm]
 have HN:=yh hn
 have HM:=yh hm
 have HA1:=yh (fun i x h hp =>zIk a i x h hp)
 have HA2:=yh (fun i x h hp =>zIk b i x h hp)
 rw [← hn] at ha
 rw [← hm] at hb
 unfold maxLen at ha hb
 generalize tx a=s at *
 generalize tx b=t at *
 clear hn hm
 go_enter Tryz.func74,Tryz.ntmps74
 go_wp2
 go_loopw [5] (fun v5 wr =>∃ k:Nat,v5=.int .i64 (k:Int)∧k≤n∧k≤m∧a.take k=b.take k∧∃ q,wr=w.drewN q) (fun v5 _ =>n - (intOf v5).toNat)
 case atStart =>exact ⟨0,rfl,by omega,by omega,rfl,0,rfl⟩
 case round =>
  obtain ⟨k,rfl,hk1,hk2,htk,q,rfl⟩:=hrel
  have HTK:=yh htk
  clear htk
  have hi0:(0:Int)≤(k:Int):=by omega
  by_cases h1:k<n
  ·by_cases h2:k<m
   ·obtain ⟨x,hx⟩:∃ x,a[k]? = some x:=⟨_,List.getElem?_eq_getElem (by rw [← HN.out];exact h1)⟩
    obtain ⟨y,hy⟩:∃ y,b[k]? = some y:=⟨_,List.getElem?_eq_getElem (by rw [← HM.out];exact h2)⟩
    have hp1:k<s.size:=by omega
    have hp2:k<t.size:=by omega
    have X:=yh (HA1.out k x hx hp1)
    have Y:=yh (HA2.out k y hy hp2)
    by_cases e:x=y
    ·have HT2:Hid (a.take (k+1)=b.take (k+1)):=by
      show _=_
      rw [List.take_add_one,List.take_add_one,hx,hy,HTK.out,e]
     have hc:((s[k].toNat:Int) != (t[k].toNat:Int))=false:=by rw [X.out,Y.out,e];simp
     clear hx hy
     go_wp2
     go_region
     go_wp2
     exact ⟨⟨k+1,by go_num,by omega,by omega,HT2.out,_,by first | rfl | exact (World.drewN_drewN ..)⟩,by simp [intOf];omega⟩
    ·have hc:((s[k].toNat:Int) != (t[k].toNat:Int))=true:=by
      rw [X.out,Y.out,bne_iff_ne]
      intro h
      exact e (UInt8.toNat_inj.1 (by omega))
     have HE:Hid (decide (s[k].toNat<t[k].toNat)=decide (a<b)):=by
      have hX:=X.out
      have hY:=Y.out
      show _=_
      rw [decide_eq_decide,zLk HTK.out hx hy e,UInt8.lt_iff_toNat_lt]
      omega
     clear hx hy
     go_wp2
     go_region
     go_wp2
     go_region
     go_wp2
     go_ret
     exact ⟨zDu HE.out,_,by first | rfl | exact World.drewN_drewN ..⟩
   ·have HE:Hid (decide (n<m)=decide (a<b)):=by
     show _=_
     rw [decide_eq_decide,zIl HTK.out (.inr (by rw [← HM.out];omega)) (by rw [← HN.out];exact hk1) (by rw [← HM.out];exact hk2),← HN.out,← HM.out]
    go_wp2
    go_ret
    exact ⟨zDu HE.out,_,rfl⟩
  ·have HE:Hid (decide (n<m)=decide (a<b)):=by
    show _=_
    rw [decide_eq_decide,zIl HTK.out (.inl (by rw [← HN.out];omega)) (by rw [← HN.out];exact hk1) (by rw [← HM.out];exact hk2),← HN.out,← HM.out]
   go_wp2
   go_ret
   exact ⟨zDu HE.out,_,rfl⟩
def zAz (S:List Rw):Prop:=Up Rw.t S∧∀ x ∈ S,x.k=1
theorem zEH {S:List Rw} {i:Nat} {x:Rw} (hx:S[i]? = some x):Up Rw.t (S.take (i+1)) ↔ Up Rw.t (S.take i)∧∀ y ∈ S.take i,y.t<x.t:=by
 unfold Up
 rw [List.take_add_one,hx,List.pairwise_append]
 simp
theorem zHf {S:List Rw} {i:Nat} {x y:Rw} (hx:S[i+1]? = some x) (hy:S[i]? = some y) (h:Up Rw.t (S.take (i+1))):Up Rw.t (S.take (i+1+1)) ↔ y.t<x.t:=by
 rw [zEH hx]
 constructor
 ·intro h2
  exact h2.2 y (by rw [List.take_add_one,hy];simp)
 ·intro h2
  refine ⟨h,fun z hz =>?_⟩
  rw [List.take_add_one,hy,List.mem_append] at hz
  rcases hz with hz | hz
  ·exact zGW (((zEH hy).1 h).2 z hz) h2
  ·simp at hz
   rw [hz]
   exact h2
theorem zHg {S:List Rw} (h:Up Rw.t S) (i:Nat):Up Rw.t (S.take i):=List.Pairwise.sublist (List.take_sublist i S) h
theorem zCx {S:List Rw} {i:Nat} {x:Rw} (hx:S[i]? = some x) (h:zAz (S.take i)) (hk:x.k=1) (hu:Up Rw.t (S.take (i+1))):zAz (S.take (i+1)):=by
 refine ⟨hu,fun y hy =>?_⟩
 rw [List.take_add_one,hx,List.mem_append] at hy
 rcases hy with hy | hy
 ·exact h.2 y hy
 ·simp at hy
  rw [hy]
  exact hk
theorem zLQ (a b:List UInt8):(Op.bytesLess (tx a).toList (tx b).toList || (tx a).toList == (tx b).toList) = !decide (b<a):=by
 rw [bytesLess_eq,zAg,zAg]
 rcases zIm a b with h | h | h
 ·simp [h,zEX h]
 ·subst h
  simp [zEq]
 ·simp [h,zEX h]
  exact fun e =>zDY h e.symm
def zKP (n:Nat) (xs:List Rw) (w:World) (idx:Value) (wr:World):Prop:=∃ i:Nat,i≤n∧idx=.int .i64 (i:Int)∧zAz (xs.take i)∧Below w.heap.size w wr
theorem zIz (A:Option Addr) (n c:Nat) (xs:List Rw) (hn:n≤1000000) (w:World) (h:Recs w w.heap.size A n xs) :
  Calls Tryz.prog 26 #[.slice A n c] w fun e w' =>zAX (zAz xs) e∧Below w.heap.size w w':=by
 have HL:Hid (xs.length=n):=h.len
 have H1:=yh h
 clear h
 go_enter Tryz.func26,Tryz.ntmps26
 go_wp2
 go_loopw [7] (fun idx wr =>zKP n xs w idx wr) (fun idx _ =>n - (intOf idx).toNat)
 case atStart =>exact ⟨0,by omega,rfl,⟨by simp [Up],by simp⟩,Below.refl _ _⟩
 case round =>
  obtain ⟨i,hi,rfl,hrt,hb⟩:=hrel
  have HRT:=yh hrt
  have HBR:=yh hb
  clear hrt
  by_cases hlt:i<n
  ·obtain ⟨x,hx⟩:∃ x,xs[i]? = some x:=⟨_,List.getElem?_eq_getElem (by rw [HL.out];exact hlt)⟩
   have hm:=List.mem_of_getElem? hx
   have HX:=yh hx
   have hrec:=(H1.out.below hb).1
   obtain ⟨ad,rfl,_,k0,k1,k2,k3,k4,k5,k6⟩:=zAn hrec i x hx
   have HB2:=yh (hb.alloc hb.size (.cells #[.int .i64 x.r.kind,.string (tx x.r.target),.int .u64 x.r.rule,.slice x.A x.n x.c,.int .u64 x.r.out,.int .u64 x.r.time,.string (tx x.r.tag)] 37))
   have hbx:=zAI wr (.cells #[.int .i64 x.r.kind,.string (tx x.r.target),.int .u64 x.r.rule,.slice x.A x.n x.c,.int .u64 x.r.out,.int .u64 x.r.time,.string (tx x.r.tag)] 37)
   have q0:=zAA (i:=0) hbx rfl
   have q1:=zAA (i:=1) hbx rfl
   have hi0:(0:Int)≤(i:Int):=by omega
   have hi1:(i:Int)<(n:Int):=by omega
   by_cases hk:x.r.kind=1
   ·rcases Nat.eq_zero_or_pos i with h0 | h0
    ·have HOK:Hid (zAz (xs.take (i+1))):=zCx hx HRT.out hk ((zEH hx).2 ⟨by subst h0;simp [Up],by subst h0;simp⟩)
     have d1:decide ((i:Int) > 0)=false:=decide_eq_false (by omega)
     have d2:decide (0<i)=false:=decide_eq_false (by omega)
     obtain ⟨⟨k,t,u,o,m,g⟩,A4,n4,c4,l4⟩:=x
     simp only at hk
     subst hk
     simp only at k0 k1 k2 k3 k4 k5 k6 q0 q1 HB2
     clear hx hm hb hrec hbx h0
     go_wp2
     go_quiet (fail)
     go_wp2
     exact ⟨⟨i+1,by omega,by go_num,HOK.out,zBB HB2.out _⟩,by simp [intOf];omega⟩
    ·obtain ⟨j,rfl⟩:∃ j,i=j+1:=⟨i - 1,by omega⟩
     obtain ⟨y,hy⟩:∃ y,xs[j]? = some y:=⟨_,List.getElem?_eq_getElem (by rw [HL.out];omega)⟩
     obtain ⟨ad2,e2,hadb,_,j1,_⟩:=zAn hrec j y hy
     obtain rfl:ad=ad2:=by injection e2
     have hq:(wr.alloc (.cells #[.int .i64 x.r.kind,.string (tx x.r.target),.int .u64 x.r.rule,.slice x.A x.n x.c,.int .u64 x.r.out,.int .u64 x.r.time,.string (tx x.r.tag)] 37)).cell? ⟨(ad.add (j * 7)).block,(ad.add (j * 7)).off+1,none⟩=some (.string (tx y.t)) :=
      (World.cell?_alloc_lt wr _ _ (by show (ad.add (j * 7)).block<_;rw [zAH];have:=hb.size;omega)).trans j1
     have hw:IntKind.i64.wrap (((j+1:Nat):Int) - 1)=(j:Int):=by rw [zBq (by omega) (by omega)];omega
     have hw2:IntKind.i64.wrap ((j:Int)+1 - 1)=(j:Int):=by rw [zBq (by omega) (by omega)];omega
     have hj1:(j:Int)<(n:Int):=by omega
     have hlq:=zLQ x.t y.t
     have HUL:=yh (zHf hx hy HRT.out.1)
     by_cases hlt2:y.t<x.t
     ·have HOK:Hid (zAz (xs.take (j+1+1))):=zCx hx HRT.out hk (HUL.out.2 hlt2)
      rw [decide_eq_true hlt2] at hlq
      obtain ⟨⟨k,t,u,o,m,g⟩,A4,n4,c4,l4⟩:=x
      unfold Rw.t at hlq hq
      simp only at hk
      subst hk
      simp only [Bool.not_true] at k0 k1 k2 k3 k4 k5 k6 q0 q1 HB2 hlq hq
      generalize y.r.target=v at *
      clear hx hm hb hrec hbx hy j1 hlt2 HUL
      go_wp2
      go_quiet (fail)
      go_wp2
      exact ⟨⟨j+1+1,by omega,by go_num,HOK.out,zBB HB2.out _⟩,by simp [intOf];omega⟩
     ·have HNO:Hid (¬ zAz xs):=fun h =>hlt2 (HUL.out.1 (zHg h.1 _))
      rw [decide_eq_false hlt2] at hlq
      obtain ⟨⟨k,t,u,o,m,g⟩,A4,n4,c4,l4⟩:=x
      unfold Rw.t at hlq hq
      simp only at hk
      subst hk
      simp only [Bool.not_false] at k0 k1 k2 k3 k4 k5 k6 q0 q1 HB2 hlq hq
      generalize y.r.target=v at *
      clear hx hm hb hrec hbx hy j1 hlt2 HUL
      go_wp2
      go_quiet (fail)
      go_wp2
      go_ret
      exact ⟨zAF HNO.out,zBB HB2.out _⟩
   ·have HNO:Hid (¬ zAz xs):=fun h =>hk (h.2 x hm)
    have d0:(x.r.kind != 1)=true:=by rw [bne_iff_ne];exact hk
    obtain ⟨⟨k,t,u,o,m,g⟩,A4,n4,c4,l4⟩:=x
    simp only at k0 k1 k2 k3 k4 k5 k6 q0 q1 HB2 d0
    clear hx hm hb hrec hbx hk
    go_wp2
    go_quiet (fail)
    go_wp2
    go_ret
    exact ⟨zAF HNO.out,zBB HB2.out _⟩
  ·obtain rfl:i=n:=by omega
   rw [List.take_of_length_le (by rw [HL.out];omega)] at HRT
   clear hb
   go_wp2
   go_ret
   exact ⟨zAq HRT.out,HBR.out⟩
def zCm (xs:List Rw):Prop:=(∀ x ∈ xs,zBF x.r x.l)∧xs.length≤30
theorem zHo (A:Option Addr) (n c:Nat) (xs:List Rw) (hn:n≤maxLen) (hf:∀ x ∈ xs,Fits x.r x.l∧x.n≤maxLen) (w:World) (h:Recs w w.heap.size A n xs) :
  Calls Tryz.prog 18 #[.slice A n c] w fun e w' =>zAX (¬ zCm xs) e∧Below w.heap.size w w':=by
 have HL:Hid (xs.length=n):=h.len
 have H1:=yh h
 have HF:=yh hf
 unfold maxLen at hn
 clear h hf
 go_enter Tryz.func18,Tryz.ntmps18
 go_wp2
 go_loopw [7] (fun idx wr =>∃ i:Nat,i≤n∧idx=.int .i64 (i:Int)∧(∀ x ∈ xs.take i,zBF x.r x.l)∧Below w.heap.size w wr) (fun idx wr =>n - (intOf idx).toNat)
 case atStart =>exact ⟨0,by omega,rfl,by simp,Below.refl _ _⟩
 case round =>
  obtain ⟨i,hi,rfl,hsm,hb⟩:=hrel
  have HSM:=yh hsm
  have HBR:=yh hb
  clear hsm
  by_cases hlt:i<n
  ·obtain ⟨x,hx⟩:∃ x,xs[i]? = some x:=⟨_,List.getElem?_eq_getElem (by rw [HL.out];exact hlt)⟩
   have hm:=List.mem_of_getElem? hx
   obtain ⟨hfx,hnx⟩:=HF.out x hm
   have hrx:=(H1.out.2 x hm).1
   obtain ⟨ad,rfl,_,k0,k1,k2,k3,k4,k5,k6⟩:=zAn (H1.out.below hb).1 i x hx
   have HX:Hid (zBF x.r x.l→∀ y ∈ xs.take (i+1),zBF y.r y.l):=fun hs y hy =>by
    rw [List.take_add_one,hx,List.mem_append] at hy
    rcases hy with hy | hy
    ·exact HSM.out y hy
    ·simp at hy;subst hy;exact hs
   have HNO:Hid (¬ zBF x.r x.l→¬ zCm xs):=fun hs h =>hs (h.1 x hm)
   obtain ⟨⟨k,t,u,o,m,g⟩,A4,n4,c4,l4⟩:=x
   simp only at k0 k1 k2 k3 k4 k5 k6 hfx hnx hrx
   have HRX:=yh hrx
   have HFX:=yh hfx
   have HNX:=yh hnx
   have hi0:(0:Int)≤(i:Int):=by omega
   have hi1:(i:Int)<(n:Int):=by omega
   have HB2:=yh (hb.alloc hb.size (.cells #[.int .i64 k,.string (tx t),.int .u64 u,.slice A4 n4 c4,.int .u64 o,.int .u64 m,.string (tx g)] 37))
   have HS2:Hid (wr.heap.size≤(wr.alloc (.cells #[.int .i64 k,.string (tx t),.int .u64 u,.slice A4 n4 c4,.int .u64 o,.int .u64 m,.string (tx g)] 37)).heap.size):=by show _≤_;simp
   clear hx hm hfx hnx hrx hb
   by_cases hs:zBF ⟨k,t,u,o,m,g⟩ l4
   ·have HS:=yh hs
    go_wp2_with (go_at_call 13;refine (zDR ⟨k,t,u,o,m,g⟩ A4 n4 c4 l4 _ HNX.out HFX.out.2.2 HFX.out.1 HFX.out.2.1 ((HRX.out.below HB2.out).more HB2.out.size)).mono ?_;rintro e w3 ⟨he,hb3⟩;obtain rfl:=he.no (fun h =>h HS.out);have HB3:=yh (HB2.out.trans (hb3.mono HB2.out.size));clear hb3)
    exact ⟨⟨i+1,by omega,by go_num,HX.out HS.out,HB3.out⟩,by simp [intOf];omega⟩
   ·have HS:=yh hs
    go_wp2_with (go_at_call 13;refine (zDR ⟨k,t,u,o,m,g⟩ A4 n4 c4 l4 _ HNX.out HFX.out.2.2 HFX.out.1 HFX.out.2.1 ((HRX.out.below HB2.out).more HB2.out.size)).mono ?_;rintro e w3 ⟨he,hb3⟩;obtain rfl:=he.yes HS.out;have HB3:=yh (HB2.out.trans (hb3.mono HB2.out.size));clear hb3)
    go_ret
    exact ⟨zAq (HNO.out HS.out),HB3.out⟩
  ·obtain rfl:i=n:=by omega
   rw [List.take_of_length_le (by rw [HL.out];omega)] at HSM
   clear hb
   by_cases h30:i≤30
   ·have HQ:Hid (zCm xs):=⟨HSM.out,by rw [HL.out];exact h30⟩
    go_wp2
    go_ret
    exact ⟨by first | exact zAF (fun h =>h HQ.out) | (refine (show ∀ {b:Bool},b=false→zAX (¬ zCm xs) (.returned (.bool b)) from fun h =>h▸zAF (fun h =>h HQ.out)) ?_;simp;omega),HBR.out⟩
   ·have HQ:Hid (¬ zCm xs):=fun h =>h30 (by have:=h.2;rw [HL.out] at this;exact this)
    have END:Hid (∀ b:Bool,b=true→zAX (¬ zCm xs) (.returned (.bool b))):=fun b h =>h▸zAq HQ.out
    go_wp2
    go_ret
    exact ⟨END.out _ (by first | rfl | (simp;omega)),HBR.out⟩
def zBA (x:Rw):Prop:=Fits x.r x.l∧Nums x.r x.l∧zBF x.r x.l
def lnOk (x:Rw):Prop:=x.r.kind=1∧MayP 3 x.r x.l
def lnT (x:Rw):List UInt8:=zAU (zAu x.r.target x.r.rule.toNat x.r.out.toNat x.r.time.toNat x.r.tag x.l)
theorem zEp {x:Rw} (h:zBA x):(lnT x).length≤260000:=by
 obtain ⟨r,A,n,c,l⟩:=x
 obtain ⟨hf,⟨_,_,⟨m0,m1⟩,_⟩,h1,h2,h3,h4⟩:=h
 have h5:=zEK (t:=r.target) (g:=r.tag) (zu:=r.rule.toNat) (zo:=r.out.toNat) (zm:=r.time.toNat) (i:=l.length) (l:=l) (zDW (by simp only at m0 m1;omega) h3 h4 h1) h2
 rw [List.take_length] at h5
 exact h5
theorem zGR (x:Rw) (hx:zBA x) (w:World) (hp:zAl w) (h:zAE w w.heap.size 3 x.A x.n (dps x.l)) :
  Calls Tryz.prog 17 #[.agg #[.int .i64 x.r.kind,.string (tx x.r.target),.int .u64 x.r.rule,.slice x.A x.n x.c,.int .u64 x.r.out,.int .u64 x.r.time,.string (tx x.r.tag)]] w fun e w' =>
   ((lnOk x∧e=.returned (.tuple #[.string (tx (lnT x)),.int .i64 0]))∨(¬ lnOk x∧e=.returned (.tuple #[.string ⟨#[]⟩,.int .i64 1])))∧Below w.heap.size w w':=by
 obtain ⟨⟨k,t,u,o,m,g⟩,A,n,c,l⟩:=x
 obtain ⟨hfit,hnu,hsm⟩:=hx
 have hln:l.length=n:=by have:=h.1;rw [zAd] at this;simp only at this;omega
 have hn:n≤1000:=by have:=hsm.2.1;simp only at this;omega
 by_cases hok:lnOk ⟨⟨k,t,u,o,m,g⟩,A,n,c,l⟩
 ·obtain ⟨hk,hmay⟩:=id hok
  obtain ⟨⟨u0,u1⟩,⟨o0,o1⟩,⟨m0,m1⟩,hds⟩:=hnu
  simp only at u0 u1 o0 o1 m0 m1 hk
  subst hk
  obtain ⟨zu,rfl⟩:=Int.eq_ofNat_of_zero_le u0
  obtain ⟨zo,rfl⟩:=Int.eq_ofNat_of_zero_le o0
  obtain ⟨zm,rfl⟩:=Int.eq_ofNat_of_zero_le m0
  exact (zJZ zu zo zm t g A n c l (by omega) (by omega) (by omega) hds hmay hfit hsm w hp h).mono fun e w' ⟨he,hb⟩ =>⟨.inl ⟨hok,he⟩,hb⟩
 ·exact (zGB k u o m t g A n c l (by omega) hfit hok w h).mono fun e w' ⟨he,hb⟩ =>⟨.inr ⟨hok,he⟩,hb⟩
theorem zHa (x:Rw) (hx:zBA x) (w:World) (h:zAE w w.heap.size 3 x.A x.n (dps x.l)) :
  Calls Tryz.prog 38 #[.agg #[.int .i64 x.r.kind,.string (tx x.r.target),.int .u64 x.r.rule,.slice x.A x.n x.c,.int .u64 x.r.out,.int .u64 x.r.time,.string (tx x.r.tag)]] w fun e w' =>
   ((lnOk x∧e=.returned (.tuple #[.string (tx (lnT x)),.int .i64 0]))∨(¬ lnOk x∧e=.returned (.tuple #[.string ⟨#[]⟩,.int .i64 1])))∧Below w.heap.size w w':=by
 obtain ⟨⟨k,t,u,o,m,g⟩,A,n,c,l⟩:=x
 obtain ⟨hfit,hnu,hsm⟩:=hx
 have hln:l.length=n:=by have:=h.1;rw [zAd] at this;simp only at this;omega
 have hn:n≤1000:=by have:=hsm.2.1;simp only at this;omega
 by_cases hok:lnOk ⟨⟨k,t,u,o,m,g⟩,A,n,c,l⟩
 ·obtain ⟨hk,hmay⟩:=id hok
  obtain ⟨⟨u0,u1⟩,⟨o0,o1⟩,⟨m0,m1⟩,hds⟩:=hnu
  simp only at u0 u1 o0 o1 m0 m1 hk
  subst hk
  obtain ⟨zu,rfl⟩:=Int.eq_ofNat_of_zero_le u0
  obtain ⟨zo,rfl⟩:=Int.eq_ofNat_of_zero_le o0
  obtain ⟨zm,rfl⟩:=Int.eq_ofNat_of_zero_le m0
  exact (zJu zu zo zm t g A n c l (by omega) (by omega) (by omega) hds hmay hfit hsm w h).mono fun e w' ⟨he,hb⟩ =>⟨.inl ⟨hok,he⟩,hb⟩
 ·exact (zGh k u o m t g A n c l (by omega) hfit hok w h).mono fun e w' ⟨he,hb⟩ =>⟨.inr ⟨hok,he⟩,hb⟩
def hdT (n:Nat):List UInt8:=[116,101,112,104,114,97,32]++Lib.decDigits n++[10]
def lnsT (xs:List Rw):List UInt8:=xs.flatMap fun x =>lnT x++[10]
def txt (xs:List Rw):List UInt8:=hdT xs.length++lnsT xs
def OkT (xs:List Rw):Prop:=zAz xs∧∀ x ∈ xs,lnOk x
theorem zEW {xs:List Rw} {i:Nat} {x:Rw} (hx:xs[i]? = some x):lnsT (xs.take (i+1))=lnsT (xs.take i)++(lnT x++[10]):=by
 unfold lnsT
 rw [List.take_add_one,hx,List.flatMap_append]
 simp
theorem zFE {xs:List Rw} {M:Nat} (h:∀ x ∈ xs,(lnT x).length+1≤M) (i:Nat):(lnsT (xs.take i)).length≤i * M:=by
 induction i with
 | zero =>simp [lnsT]
 | succ i ih =>
  rw [Nat.succ_mul]
  rcases Nat.lt_or_ge i xs.length with hi | hi
  ·have hx:xs[i]? = some xs[i]:=List.getElem?_eq_getElem hi
   rw [zEW hx,List.length_append,List.length_append]
   have:=h _ (List.getElem_mem hi)
   simp only [List.length_cons,List.length_nil]
   omega
  ·rw [List.take_of_length_le (Nat.le_succ_of_le hi)]
   rw [List.take_of_length_le hi] at ih
   omega
theorem zCU {n:Nat} (h:n<1000):(Lib.decDigits n).length≤3:=by
 by_cases h1:n<10
 ·rw [zAY h1];simp
 ·rw [zBZ h1,zAY (show n % 10<10 by omega),List.length_append]
  by_cases h2:n / 10<10
  ·rw [zAY h2];simp
  ·rw [zBZ h2,zAY (show n / 10 % 10<10 by omega),zAY (show n / 10 / 10<10 by omega)];simp
theorem zGI {n:Nat} (h:n<1000):(hdT n).length≤11:=by
 have:=zCU h
 unfold hdT
 simp
 omega
def AnsT (xs:List Rw) (e:Ending):Prop:=(OkT xs∧e=.returned (.tuple #[.string (tx (zAP (txt xs))),.int .i64 0]))∨(¬ OkT xs∧e=.returned (.tuple #[.string ⟨#[]⟩,.int .i64 1]))
theorem zHh (l m:List UInt8):Lib.byteCells l++Lib.strCells (tx m)=Lib.byteCells (l++m):=by
 unfold Lib.byteCells Lib.strCells
 rw [List.map_append]
 rfl
theorem zHX {xs:List Rw} {i:Nat} {x:Rw} (hx:xs[i]? = some x) (h:∀ y ∈ xs.take i,lnOk y) (hk:lnOk x):∀ y ∈ xs.take (i+1),lnOk y:=fun y hy =>by
 rw [List.take_add_one,hx,List.mem_append] at hy
 rcases hy with hy | hy
 ·exact h y hy
 ·simp at hy
  rw [hy]
  exact hk
theorem zJF {x y:Rw}:x.say=y.say ↔ x.r=y.r∧x.l=y.l:=by
 unfold Rw.say
 exact Prod.mk.injEq .. ▸ Iff.rfl
theorem zCK (A B:Option Addr) (n m c d:Nat) (xs ys:List Rw) (hn:n≤maxLen) (hm:m≤maxLen) (hs:∀ x ∈ xs,x.n≤1000000) (w:World) (h1:Recs w w.heap.size A n xs) (h2:Recs w w.heap.size B m ys) :
  Calls Tryz.prog 10 #[.slice A n c,.slice B m d] w fun e w' =>zAX (xs.map Rw.say=ys.map Rw.say) e∧Below w.heap.size w w':=by
 have HL1:Hid (xs.length=n):=h1.len
 have HL2:Hid (ys.length=m):=h2.len
 have H1:=yh h1
 have H2:=yh h2
 have HS:=yh hs
 unfold maxLen at hn hm
 clear h1 h2 hs
 by_cases hnm:n=m
 ·subst hnm
  have hd0:decide ((n:Int)=(n:Int))=true:=by simp
  have hd1:((n:Int) != (n:Int))=false:=by simp
  go_enter Tryz.func10,Tryz.ntmps10
  go_wp2
  go_loopw [5] (fun idx wr =>∃ i:Nat,i≤n∧idx=.int .i64 (i:Int)∧(xs.take i).map Rw.say=(ys.take i).map Rw.say∧Below w.heap.size w wr) (fun idx wr =>n - (intOf idx).toNat)
  case atStart =>exact ⟨0,by omega,rfl,by simp,Below.refl _ _⟩
  case round =>
   obtain ⟨i,hi,rfl,htk,hb⟩:=hrel
   have HTK:=yh htk
   have HBR:=yh hb
   clear htk
   by_cases hlt:i<n
   ·obtain ⟨x,hx⟩:∃ x,xs[i]? = some x:=⟨_,List.getElem?_eq_getElem (by rw [HL1.out];exact hlt)⟩
    obtain ⟨y,hy⟩:∃ y,ys[i]? = some y:=⟨_,List.getElem?_eq_getElem (by rw [HL2.out];exact hlt)⟩
    have hmx:=List.mem_of_getElem? hx
    have hmy:=List.mem_of_getElem? hy
    have hnx:=HS.out x hmx
    have hrx:=(H1.out.2 x hmx).1
    have hry:=(H2.out.2 y hmy).1
    obtain ⟨ad,rfl,hab,k0,k1,k2,k3,k4,k5,k6⟩:=zAn (H1.out.below hb).1 i x hx
    obtain ⟨ad',rfl,hab',j0,j1,j2,j3,j4,j5,j6⟩:=zAn (H2.out.below hb).1 i y hy
    have HX:Hid (x.r=y.r∧x.l=y.l→(xs.take (i+1)).map Rw.say=(ys.take (i+1)).map Rw.say):=fun he =>by
     rw [List.take_add_one,List.take_add_one,hx,hy,List.map_append,List.map_append,HTK.out]
     simp [zJF.2 he]
    have HNO:Hid (¬ (x.r=y.r∧x.l=y.l)→¬ xs.map Rw.say=ys.map Rw.say):=fun he h =>he (zJF.1 (by
     have e:=congrArg (fun l:List (Rc×List Dp) =>l[i]?) h
     simp only [List.getElem?_map,hx,hy,Option.map_some] at e
     exact Option.some.inj e))
    obtain ⟨⟨k,t,u,o,m,g⟩,A4,n4,c4,l4⟩:=x
    obtain ⟨⟨kb,tb,ub,ob,mb,gb⟩,B4,m4,d4,l5⟩:=y
    simp only at k0 k1 k2 k3 k4 k5 k6 j0 j1 j2 j3 j4 j5 j6 hnx hrx hry
    have HRX:=yh hrx
    have HRY:=yh hry
    have HNX:=yh hnx
    have hi0:(0:Int)≤(i:Int):=by omega
    have hi1:(i:Int)<(n:Int):=by omega
    clear hx hy hmx hmy hnx hrx hry hb
    go_wp2_with fail
    by_cases he:(⟨k,t,u,o,m,g⟩:Rc)=⟨kb,tb,ub,ob,mb,gb⟩∧l4=l5
    ·have HE:=yh he
     clear he
     refine wp_region_held (S:=fun v =>Below wr.heap.size wr v) (by kernel_rfl) ?_
     have hS:Below wr.heap.size wr wr.drew:=(Below.refl _ wr).drew
     refine zAB 0 (.slice (some ad) n c) rfl (by kernel_rfl) (by kernel_rfl) (by kernel_rfl) (fun _ _ _ h =>h) (by kernel_rfl) hS (fun _ _ =>by kernel_rfl) ?_
     refine zAB 1 (.int .i64 (i:Int)) rfl (by kernel_rfl) (by kernel_rfl) (by kernel_rfl) (fun _ _ _ h =>h) (by kernel_rfl) hS (fun _ _ =>by kernel_rfl) ?_
     refine zAB 2 (.pointer (some (ad.add (i * 7)))) rfl (by kernel_rfl) (by kernel_rfl) (by kernel_rfl) (fun _ _ _ h =>h) (by kernel_rfl) hS (by intro v hv;go_simp) ?_
     refine zAB 3 (.agg #[.int .i64 k,.string (tx t),.int .u64 u,.slice A4 n4 c4,.int .u64 o,.int .u64 m,.string (tx g)]) rfl (by kernel_rfl) (by kernel_rfl) (by kernel_rfl) (fun _ _ _ h =>h) (by kernel_rfl) hS (by intro v hv;have q0:=(hv.cell (p:=ad.add (i * 7)) (show (ad.add (i * 7)).block<_ by rw [zAH];have h1:=HBR.out.size;omega)).trans k0;have q1:=(hv.cell (p:=⟨(ad.add (i * 7)).block,(ad.add (i * 7)).off+1,none⟩) (show (ad.add (i * 7)).block<_ by rw [zAH];have h1:=HBR.out.size;omega)).trans k1;have q2:=(hv.cell (p:=⟨(ad.add (i * 7)).block,(ad.add (i * 7)).off+2,none⟩) (show (ad.add (i * 7)).block<_ by rw [zAH];have h1:=HBR.out.size;omega)).trans k2;have q3:=(hv.cell (p:=⟨(ad.add (i * 7)).block,(ad.add (i * 7)).off+3,none⟩) (show (ad.add (i * 7)).block<_ by rw [zAH];have h1:=HBR.out.size;omega)).trans k3;have q4:=(hv.cell (p:=⟨(ad.add (i * 7)).block,(ad.add (i * 7)).off+4,none⟩) (show (ad.add (i * 7)).block<_ by rw [zAH];have h1:=HBR.out.size;omega)).trans k4;have q5:=(hv.cell (p:=⟨(ad.add (i * 7)).block,(ad.add (i * 7)).off+5,none⟩) (show (ad.add (i * 7)).block<_ by rw [zAH];have h1:=HBR.out.size;omega)).trans k5;have q6:=(hv.cell (p:=⟨(ad.add (i * 7)).block,(ad.add (i * 7)).off+6,none⟩) (show (ad.add (i * 7)).block<_ by rw [zAH];have h1:=HBR.out.size;omega)).trans k6;go_simp;try rfl) ?_
     refine zAB 4 (.slice (some ad') n d) rfl (by kernel_rfl) (by kernel_rfl) (by kernel_rfl) (fun _ _ _ h =>h) (by kernel_rfl) hS (fun _ _ =>by kernel_rfl) ?_
     refine zAB 5 (.int .i64 (i:Int)) rfl (by kernel_rfl) (by kernel_rfl) (by kernel_rfl) (fun _ _ _ h =>h) (by kernel_rfl) hS (fun _ _ =>by kernel_rfl) ?_
     refine zAB 6 (.pointer (some (ad'.add (i * 7)))) rfl (by kernel_rfl) (by kernel_rfl) (by kernel_rfl) (fun _ _ _ h =>h) (by kernel_rfl) hS (by intro v hv;go_simp) ?_
     refine zAB 7 (.agg #[.int .i64 kb,.string (tx tb),.int .u64 ub,.slice B4 m4 d4,.int .u64 ob,.int .u64 mb,.string (tx gb)]) rfl (by kernel_rfl) (by kernel_rfl) (by kernel_rfl) (fun _ _ _ h =>h) (by kernel_rfl) hS (by intro v hv;have q0:=(hv.cell (p:=ad'.add (i * 7)) (show (ad'.add (i * 7)).block<_ by rw [zAH];have h1:=HBR.out.size;omega)).trans j0;have q1:=(hv.cell (p:=⟨(ad'.add (i * 7)).block,(ad'.add (i * 7)).off+1,none⟩) (show (ad'.add (i * 7)).block<_ by rw [zAH];have h1:=HBR.out.size;omega)).trans j1;have q2:=(hv.cell (p:=⟨(ad'.add (i * 7)).block,(ad'.add (i * 7)).off+2,none⟩) (show (ad'.add (i * 7)).block<_ by rw [zAH];have h1:=HBR.out.size;omega)).trans j2;have q3:=(hv.cell (p:=⟨(ad'.add (i * 7)).block,(ad'.add (i * 7)).off+3,none⟩) (show (ad'.add (i * 7)).block<_ by rw [zAH];have h1:=HBR.out.size;omega)).trans j3;have q4:=(hv.cell (p:=⟨(ad'.add (i * 7)).block,(ad'.add (i * 7)).off+4,none⟩) (show (ad'.add (i * 7)).block<_ by rw [zAH];have h1:=HBR.out.size;omega)).trans j4;have q5:=(hv.cell (p:=⟨(ad'.add (i * 7)).block,(ad'.add (i * 7)).off+5,none⟩) (show (ad'.add (i * 7)).block<_ by rw [zAH];have h1:=HBR.out.size;omega)).trans j5;have q6:=(hv.cell (p:=⟨(ad'.add (i * 7)).block,(ad'.add (i * 7)).off+6,none⟩) (show (ad'.add (i * 7)).block<_ by rw [zAH];have h1:=HBR.out.size;omega)).trans j6;go_simp;try rfl) ?_
     refine zAJ 8 rfl (by kernel_rfl) (by kernel_rfl) (fun K hK =>?_)
     go_simp
     refine (zCy ⟨k,t,u,o,m,g⟩ ⟨kb,tb,ub,ob,mb,gb⟩ A4 B4 n4 m4 c4 d4 l4 l5 HNX.out _ ((HRX.out.below HBR.out.drew).more HBR.out.drew.size) ((HRY.out.below HBR.out.drew).more HBR.out.drew.size)).mono ?_
     rintro e w3 ⟨q,hq,rfl,hb3⟩
     obtain rfl:q=true:=hq.2 HE.out
     have HB3:=yh (HBR.out.drew.trans (hb3.mono HBR.out.drew.size))
     have hS3:Below wr.heap.size wr w3:=hS.trans (hb3.mono hS.size)
     clear hb3 hq
     refine hK _ _ hS3 ?_
     clear hK K
     refine zAB 9 (.bool false) rfl (by kernel_rfl) (by kernel_rfl) (by kernel_rfl) (fun _ _ _ h =>h) (by kernel_rfl) hS3 (by intro v hv;go_simp) ?_
     refine wpAnyH_done (by kernel_rfl) ?_ _
     go_simp
     go_wp2
     exact ⟨⟨i+1,by omega,by go_num,HX.out HE.out,HB3.out⟩,by simp [intOf];omega⟩
    ·have HE:=yh he
     clear he
     refine wp_region_held (S:=fun v =>Below wr.heap.size wr v) (by kernel_rfl) ?_
     have hS:Below wr.heap.size wr wr.drew:=(Below.refl _ wr).drew
     refine zAB 0 (.slice (some ad) n c) rfl (by kernel_rfl) (by kernel_rfl) (by kernel_rfl) (fun _ _ _ h =>h) (by kernel_rfl) hS (fun _ _ =>by kernel_rfl) ?_
     refine zAB 1 (.int .i64 (i:Int)) rfl (by kernel_rfl) (by kernel_rfl) (by kernel_rfl) (fun _ _ _ h =>h) (by kernel_rfl) hS (fun _ _ =>by kernel_rfl) ?_
     refine zAB 2 (.pointer (some (ad.add (i * 7)))) rfl (by kernel_rfl) (by kernel_rfl) (by kernel_rfl) (fun _ _ _ h =>h) (by kernel_rfl) hS (by intro v hv;go_simp) ?_
     refine zAB 3 (.agg #[.int .i64 k,.string (tx t),.int .u64 u,.slice A4 n4 c4,.int .u64 o,.int .u64 m,.string (tx g)]) rfl (by kernel_rfl) (by kernel_rfl) (by kernel_rfl) (fun _ _ _ h =>h) (by kernel_rfl) hS (by intro v hv;have q0:=(hv.cell (p:=ad.add (i * 7)) (show (ad.add (i * 7)).block<_ by rw [zAH];have h1:=HBR.out.size;omega)).trans k0;have q1:=(hv.cell (p:=⟨(ad.add (i * 7)).block,(ad.add (i * 7)).off+1,none⟩) (show (ad.add (i * 7)).block<_ by rw [zAH];have h1:=HBR.out.size;omega)).trans k1;have q2:=(hv.cell (p:=⟨(ad.add (i * 7)).block,(ad.add (i * 7)).off+2,none⟩) (show (ad.add (i * 7)).block<_ by rw [zAH];have h1:=HBR.out.size;omega)).trans k2;have q3:=(hv.cell (p:=⟨(ad.add (i * 7)).block,(ad.add (i * 7)).off+3,none⟩) (show (ad.add (i * 7)).block<_ by rw [zAH];have h1:=HBR.out.size;omega)).trans k3;have q4:=(hv.cell (p:=⟨(ad.add (i * 7)).block,(ad.add (i * 7)).off+4,none⟩) (show (ad.add (i * 7)).block<_ by rw [zAH];have h1:=HBR.out.size;omega)).trans k4;have q5:=(hv.cell (p:=⟨(ad.add (i * 7)).block,(ad.add (i * 7)).off+5,none⟩) (show (ad.add (i * 7)).block<_ by rw [zAH];have h1:=HBR.out.size;omega)).trans k5;have q6:=(hv.cell (p:=⟨(ad.add (i * 7)).block,(ad.add (i * 7)).off+6,none⟩) (show (ad.add (i * 7)).block<_ by rw [zAH];have h1:=HBR.out.size;omega)).trans k6;go_simp;try rfl) ?_
     refine zAB 4 (.slice (some ad') n d) rfl (by kernel_rfl) (by kernel_rfl) (by kernel_rfl) (fun _ _ _ h =>h) (by kernel_rfl) hS (fun _ _ =>by kernel_rfl) ?_
     refine zAB 5 (.int .i64 (i:Int)) rfl (by kernel_rfl) (by kernel_rfl) (by kernel_rfl) (fun _ _ _ h =>h) (by kernel_rfl) hS (fun _ _ =>by kernel_rfl) ?_
     refine zAB 6 (.pointer (some (ad'.add (i * 7)))) rfl (by kernel_rfl) (by kernel_rfl) (by kernel_rfl) (fun _ _ _ h =>h) (by kernel_rfl) hS (by intro v hv;go_simp) ?_
     refine zAB 7 (.agg #[.int .i64 kb,.string (tx tb),.int .u64 ub,.slice B4 m4 d4,.int .u64 ob,.int .u64 mb,.string (tx gb)]) rfl (by kernel_rfl) (by kernel_rfl) (by kernel_rfl) (fun _ _ _ h =>h) (by kernel_rfl) hS (by intro v hv;have q0:=(hv.cell (p:=ad'.add (i * 7)) (show (ad'.add (i * 7)).block<_ by rw [zAH];have h1:=HBR.out.size;omega)).trans j0;have q1:=(hv.cell (p:=⟨(ad'.add (i * 7)).block,(ad'.add (i * 7)).off+1,none⟩) (show (ad'.add (i * 7)).block<_ by rw [zAH];have h1:=HBR.out.size;omega)).trans j1;have q2:=(hv.cell (p:=⟨(ad'.add (i * 7)).block,(ad'.add (i * 7)).off+2,none⟩) (show (ad'.add (i * 7)).block<_ by rw [zAH];have h1:=HBR.out.size;omega)).trans j2;have q3:=(hv.cell (p:=⟨(ad'.add (i * 7)).block,(ad'.add (i * 7)).off+3,none⟩) (show (ad'.add (i * 7)).block<_ by rw [zAH];have h1:=HBR.out.size;omega)).trans j3;have q4:=(hv.cell (p:=⟨(ad'.add (i * 7)).block,(ad'.add (i * 7)).off+4,none⟩) (show (ad'.add (i * 7)).block<_ by rw [zAH];have h1:=HBR.out.size;omega)).trans j4;have q5:=(hv.cell (p:=⟨(ad'.add (i * 7)).block,(ad'.add (i * 7)).off+5,none⟩) (show (ad'.add (i * 7)).block<_ by rw [zAH];have h1:=HBR.out.size;omega)).trans j5;have q6:=(hv.cell (p:=⟨(ad'.add (i * 7)).block,(ad'.add (i * 7)).off+6,none⟩) (show (ad'.add (i * 7)).block<_ by rw [zAH];have h1:=HBR.out.size;omega)).trans j6;go_simp;try rfl) ?_
     refine zAJ 8 rfl (by kernel_rfl) (by kernel_rfl) (fun K hK =>?_)
     go_simp
     refine (zCy ⟨k,t,u,o,m,g⟩ ⟨kb,tb,ub,ob,mb,gb⟩ A4 B4 n4 m4 c4 d4 l4 l5 HNX.out _ ((HRX.out.below HBR.out.drew).more HBR.out.drew.size) ((HRY.out.below HBR.out.drew).more HBR.out.drew.size)).mono ?_
     rintro e w3 ⟨q,hq,rfl,hb3⟩
     obtain rfl:q=false:=by rw [← Bool.not_eq_true,hq];exact HE.out
     have HB3:=yh (HBR.out.drew.trans (hb3.mono HBR.out.drew.size))
     have hS3:Below wr.heap.size wr w3:=hS.trans (hb3.mono hS.size)
     clear hb3 hq
     refine hK _ _ hS3 ?_
     clear hK K
     refine zAB 9 (.bool true) rfl (by kernel_rfl) (by kernel_rfl) (by kernel_rfl) (fun _ _ _ h =>h) (by kernel_rfl) hS3 (by intro v hv;go_simp) ?_
     refine wpAnyH_done (by kernel_rfl) ?_ _
     go_simp
     go_wp2
     go_ret
     exact ⟨zAF (HNO.out HE.out),HB3.out⟩
   ·obtain rfl:i=n:=by omega
    have htk:=HTK.out
    rw [List.take_of_length_le (by rw [HL1.out];omega),List.take_of_length_le (by rw [HL2.out];omega)] at htk
    have HTK2:=yh htk
    clear htk hb
    go_wp2
    go_ret
    exact ⟨zAq HTK2.out,HBR.out⟩
 ·have hd0:decide ((n:Int)=(m:Int))=false:=decide_eq_false (by omega)
  have hd1:((n:Int) != (m:Int))=true:=by rw [bne_iff_ne];omega
  have HNE:Hid (¬ xs.map Rw.say=ys.map Rw.say):=fun h =>hnm (by have:=congrArg List.length h;simpa [HL1.out,HL2.out] using this)
  go_enter Tryz.func10,Tryz.ntmps10
  go_wp2
  go_ret
  exact ⟨zAF HNE.out,Below.refl _ _⟩
theorem zFL {c:UInt8}:∀ {a b r s:List UInt8},c ∉ a→c ∉ b→a++c :: r=b++c :: s→a=b∧r=s
 | [],[],r,s,_,_,h =>by simp at h;exact ⟨rfl,h⟩
 | [],y :: b,r,s,_,hb,h =>by
  simp at h
  exact absurd (by simp [h.1]) hb
 | x :: a,[],r,s,ha,_,h =>by
  simp at h
  exact absurd (by simp [h.1]) ha
 | x :: a,y :: b,r,s,ha,hb,h =>by
  simp only [List.cons_append,List.cons.injEq] at h
  obtain ⟨h1,h2⟩:=zFL (fun h' =>ha (List.mem_cons_of_mem _ h')) (fun h' =>hb (List.mem_cons_of_mem _ h')) h.2
  exact ⟨by rw [h.1,h1],h2⟩
def decV (l:List UInt8):Nat:=l.foldl (fun n b =>n * 10+(b.toNat - 48)) 0
theorem zCq {m:Nat} (h:m<10):(UInt8.ofNat (48+m)).toNat - 48=m:=by
 have:∀ k:Fin 10,(UInt8.ofNat (48+k.val)).toNat - 48=k.val:=by decide
 exact this ⟨m,h⟩
theorem zDO (u:Nat):decV (Lib.decDigits u)=u:=by
 induction u using Nat.strongRecOn with
 | _ u ih =>
  by_cases h:u<10
  ·rw [zAY h]
   show 0 * 10+((UInt8.ofNat (48+u)).toNat - 48)=u
   rw [zCq h]
   omega
  ·rw [zBZ h,zAY (show u % 10<10 by omega)]
   unfold decV
   rw [List.foldl_append]
   have h2:=ih (u / 10) (by omega)
   unfold decV at h2
   rw [h2]
   show u / 10 * 10+((UInt8.ofNat (48+u % 10)).toNat - 48)=u
   rw [zCq (by omega)]
   omega
theorem zGp {t g:List UInt8} {zu zo zm:Nat} {l:List Dp} {x:List UInt8} (hx:x ∈ zAu t zu zo zm g l):∀ b ∈ x,b≠32:=fun b hb =>by
 have he:∀ {s:List UInt8},b ∈ eput s→b≠32:=fun h e =>by
  have:=(zGE h).1
  rw [e] at this
  exact absurd this (by decide)
 have hh:∀ (h:Nat) (k:Nat),b ∈ hexl h k→b≠32:=fun h k =>by
  induction k with
  | zero =>intro hb;simp [hexl] at hb
  | succ k ih =>
   intro hb
   rw [hexl,List.mem_cons] at hb
   rcases hb with rfl | hb
   ·have:∀ m:Fin 16,dig m.val≠32:=by decide
    exact this ⟨h / 16 ^ k % 16,Nat.mod_lt _ (by omega)⟩
   ·exact ih hb
 have hd:∀ z:Nat,∀ b ∈ Lib.decDigits z,b≠32:=fun z =>by
  have hd:∀ m:Fin 10,UInt8.ofNat (48+m.val)≠32:=by decide
  induction z using Nat.strongRecOn with
  | _ z ih =>
   intro b hb
   by_cases h:z<10
   ·rw [zAY h] at hb
    obtain rfl:=List.mem_singleton.1 hb
    exact hd ⟨z,h⟩
   ·rw [zBZ h,List.mem_append] at hb
    rcases hb with hb | hb
    ·exact ih (z / 10) (by omega) b hb
    ·exact ih (z % 10) (by omega) b hb
 rcases List.mem_append.1 hx with hx | hx
 ·simp only [zAi,List.mem_cons,List.not_mem_nil,or_false] at hx
  rcases hx with rfl | rfl | rfl | rfl | rfl
  ·exact he hb
  ·exact hh _ _ hb
  ·exact hh _ _ hb
  ·exact hd _ b hb
  ·exact he hb
 ·obtain ⟨d,_,hx⟩:=List.mem_flatMap.1 hx
  simp only [zAe,List.mem_cons,List.not_mem_nil,or_false] at hx
  rcases hx with rfl | rfl
  ·exact he hb
  ·unfold zBE at hb
   rcases List.mem_append.1 hb with hb | hb
   ·exact hh _ _ hb
   ·split at hb
    ·obtain rfl:=List.mem_singleton.1 hb;decide
    ·cases hb
theorem zFd (t g:List UInt8) (zu zo zm:Nat) (l:List Dp):zAu t zu zo zm g l≠[]:=by simp [zAu,zAi]
end Go.Proofs.YtgoklhoaedceaaaGreatDoor
