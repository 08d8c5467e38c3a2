/- Texts of one proof. -/
import Derived.Test.YtoclafdidjpndaaGreatDoorMx21
set_option maxRecDepth 100000
set_option maxHeartbeats 8000000
namespace Go.Proofs.YtoclafdidjpndaaGreatDoor
open Go.RowKit Go.Shelf
def QRel (at_:Nat) (r:Nat×Nat×Nat) (bs:List UInt8) (acc times idx:Value):Prop :=
 ∃ i a t:Nat,at_+i≤bs.length∧i≤9∧idx=.int .i64 (i:Int)∧acc=.int .u64 (a:Int)∧times=.int .u64 (t:Int)∧t=128 ^ i∧r=gr i a (bs.drop (at_+i))∧a<128 ^ i
theorem zGo (a t v i:Nat) (hi:i≤9) (ht:t=128 ^ i) (ha:a<128 ^ i) (hv:i=9→v≤1) :
  IntKind.u64.wrap ((a:Int)+IntKind.u64.wrap ((t:Int) * ((v:Int) % 128)))=((a+v % 128 * 128 ^ i:Nat):Int):=by
 have hx:v % 128 * 128 ^ i<9223372036854775809:=by
  by_cases h9:i=9
  ·subst h9
   have:=hv rfl
   have h2:v % 128 * 128 ^ 9≤1 * 128 ^ 9:=Nat.mul_le_mul_right _ (by omega)
   omega
  ·have h1:128 ^ i≤128 ^ 8:=Nat.pow_le_pow_right (by omega) (by omega)
   have h2:v % 128 * 128 ^ i≤127 * 128 ^ 8:=Nat.mul_le_mul (by omega) h1
   omega
 have ha2:a<9223372036854775808:=by
  have h1:128 ^ i≤128 ^ 9:=Nat.pow_le_pow_right (by omega) (by omega)
  omega
 have e1:((t:Int) * ((v:Int) % 128))=((v % 128 * 128 ^ i:Nat):Int):=by
  rw [ht];push_cast;rw [Int.mul_comm]
 rw [e1]
 have e2:IntKind.u64.wrap ((v % 128 * 128 ^ i:Nat):Int)=((v % 128 * 128 ^ i:Nat):Int):=by
  rw [IntKind.wrap_u64];omega
 rw [e2,IntKind.wrap_u64]
 omega
theorem zMX (t i:Nat) (hi:i≤8) (ht:t=128 ^ i):IntKind.u64.wrap ((t:Int) * 128)=((128 ^ (i+1):Nat):Int):=by
 have h1:128 ^ i≤128 ^ 8:=Nat.pow_le_pow_right (by omega) (by omega)
 rw [Nat.pow_succ,← ht]
 rw [← ht] at h1
 rw [IntKind.wrap_u64]
 omega
theorem zPC {bs:List UInt8} {s:ByteArray} (hs:s=tx bs) (k:Nat) (h:k<s.size):∃ x:UInt8,x.toNat=s[k].toNat∧bs.drop k=x :: bs.drop (k+1):=by
 subst hs
 have hk:k<bs.length:=by rw [zBH] at h;exact h
 exact ⟨bs[k],rfl,List.drop_eq_getElem_cons hk⟩
theorem zHN (at_:Nat) (bs:List UInt8) (hn:bs.length≤1073741824) (hat:at_≤bs.length) (w:World) :
  Calls Tryz.prog 96 #[.string (tx bs),.int .i64 (at_:Int)] w fun e w' =>e=.returned (gres at_ (gr 0 0 (bs.drop at_)))∧w=w':=by
 obtain ⟨s,hs⟩:∃ s,s=tx bs:=⟨_,rfl⟩
 have hsz:s.size=bs.length:=by rw [hs,zBH]
 rw [← hs]
 obtain ⟨r,hr0⟩:∃ r,r=gr 0 0 (bs.drop at_):=⟨_,rfl⟩
 rw [← hr0]
 have hn':s.size≤1073741824:=by omega
 have hat':at_≤s.size:=by omega
 have hd1:decide ((at_:Int)<0)=false:=decide_eq_false (by omega)
 have hd2:decide (s.size<at_)=false:=decide_eq_false (by omega)
 have HR:=yh hr0
 have HS:=yh hs
 have HSZ:=yh hsz
 clear hr0 hs hsz hn hat
 go_enter Tryz.func96,Tryz.ntmps96
 go_wp2
 go_loop [7,8,9] (fun acc times idx =>QRel at_ r bs acc times idx) (fun _ _ idx =>10 - (intOf idx).toNat)
 case atStart =>exact ⟨0,0,1,by have:=HSZ.out;omega,by omega,rfl,rfl,rfl,rfl,HR.out,by simp⟩
 case round =>
  obtain ⟨i,a,t,hib,hi9,rfl,rfl,rfl,hT,hG,hL⟩:=hrel
  have HG:=yh hG
  have HL:=yh hL
  have HT:=yh hT
  clear hG hL hT
  have hib':at_+i≤s.size:=by have:=HSZ.out;omega
  clear hib
  by_cases hlt:at_+i<s.size
  ·obtain ⟨x,hx,hd⟩:=zPC HS.out (at_+i) hlt
   obtain ⟨v,hv⟩:∃ v,s[at_+i].toNat=v:=⟨_,rfl⟩
   have hv256:v<256:=by rw [← hv];exact s[at_+i].toNat_lt
   have HG':Hid (r=gr i a (x :: bs.drop (at_+(i+1)))):=by
    show r=_
    rw [HG.out,hd];rfl
   have HX:Hid (x.toNat=v):=hx.trans hv
   clear HG hx hd
   have hw1:IntKind.u64.wrap (v:Int)=(v:Int):=by rw [IntKind.wrap_u64];omega
   by_cases hA:i=9∧1<v
   ·obtain ⟨rfl,h1v⟩:=hA
    have b1:decide ((1:Int)<(v:Int))=true:=decide_eq_true (by omega)
    have hr':Hid (r=(0,0,3)):=by
     show r=_
     rw [HG'.out,zFP (by rw [HX.out];omega)]
    clear HG' HX
    go_wp2
    go_ret3
    exact ⟨by rw [hr'.out];rfl,rfl⟩
   ·by_cases hB:v=0∧0<i
    ·obtain ⟨rfl,h0i⟩:=hB
     have hr':Hid (r=(0,0,3)):=by
      show r=_
      rw [HG'.out,zFP (by rw [HX.out];omega)]
     clear HG' HX hA
     go_wp2
     all_goals go_ret3
     all_goals exact ⟨by rw [hr'.out];rfl,rfl⟩
    ·have hok:¬ (i=9∧1<v)∧(i=0∨v≠0):=⟨hA,by omega⟩
     by_cases h128:v<128
     ·have hr':Hid (r=(a+v * 128 ^ i,i+1,0)):=by
       show r=_
       rw [HG'.out,zEJ (by rw [HX.out];exact hok) (by rw [HX.out];exact h128),HX.out]
      clear HG' HX
      have HOK:=yh hok
      clear hok hA hB
      by_cases h9:i=9
      ·subst h9
       have h1v:v≤1:=by have:=HOK.out.1;omega
       have hv0:0<v:=by have:=HOK.out.2;omega
       have b1:decide ((1:Int)<(v:Int))=false:=decide_eq_false (by omega)
       have b2:((v:Int) == 0)=false:=by simp;omega
       go_wp2
       go_ret3
       have hacc:=zGo a t v 9 (by omega) HT.out HL.out (fun h9 =>by have:=HOK.out.1;omega)
       rw [Nat.mod_eq_of_lt h128] at hacc
       exact ⟨by rw [hacc,hr'.out,gres,zEA];simp [Int.add_assoc],rfl⟩
      ·have b9:((i:Int) == 9)=false:=by simp;omega
       by_cases h0:i=0
       ·subst h0
        have hv':s[at_].toNat=v:=hv
        go_wp2
        go_ret3
        have hacc:=zGo a t v 0 (by omega) HT.out HL.out (fun h9 =>by have:=HOK.out.1;omega)
        rw [Nat.mod_eq_of_lt h128] at hacc
        exact ⟨by rw [hacc,hr'.out,gres,zEA];simp,rfl⟩
       ·have b2:((v:Int) == 0)=false:=by have:=HOK.out.2;simp;omega
        have h0i:0<i:=by omega
        go_wp2
        go_ret3
        have hacc:=zGo a t v i (by omega) HT.out HL.out (fun h9 =>by have:=HOK.out.1;omega)
        rw [Nat.mod_eq_of_lt h128] at hacc
        exact ⟨by rw [hacc,hr'.out,gres,zEA];simp [Int.add_assoc],rfl⟩
     ·have h0v:0<v:=by omega
      have hi8:i≤8:=by have:=hok.1;omega
      have b9:((i:Int) == 9)=false:=by simp;omega
      have HOK:=yh hok
      clear hok hA hB
      have hacc:=zGo a t v i hi9 HT.out HL.out (fun h9 =>by omega)
      have htim:=zMX t i hi8 HT.out
      have HACC:=yh hacc
      have HTIM:=yh htim
      clear hacc htim
      have HG2:Hid (r=gr (i+1) (a+v % 128 * 128 ^ i) (bs.drop (at_+(i+1)))):=by
       show r=_
       rw [HG'.out,zGi (by rw [HX.out];exact HOK.out) (by rw [HX.out];exact h128),HX.out]
      have HL2:Hid (a+v % 128 * 128 ^ i<128 ^ (i+1)):=by
       show _<_
       have h1:=HL.out
       have h2:v % 128 * 128 ^ i≤127 * 128 ^ i:=Nat.mul_le_mul_right _ (by omega)
       rw [Nat.pow_succ];omega
      clear HG' HX
      go_wp2
      rw [HACC.out,HTIM.out]
      exact ⟨⟨i+1,_,_,by have:=HSZ.out;omega,by omega,by go_num,rfl,rfl,rfl,HG2.out,HL2.out⟩,by simp [intOf];omega⟩
  ·have hEnd:at_+i=s.size:=by omega
   have hd:bs.drop (at_+i)=[]:=List.drop_eq_nil_of_le (by have:=HSZ.out;omega)
   have hr':Hid (r=(0,0,2)):=by
    show r=_
    rw [HG.out,hd,gr]
   clear hd HG
   have bE:((at_:Int)+(i:Int) == (s.size:Int))=true:=by simp;omega
   have HE:=yh hEnd
   clear hEnd hlt
   go_wp2
   go_ret3
   exact ⟨by rw [hr'.out];rfl,rfl⟩
theorem zGJ (s:ByteArray) (at_:Int) (h:at_<0∨(s.size:Int)<at_) (w:World) :
  Calls Tryz.prog 96 #[.string s,.int .i64 at_] w fun e w' =>e=.returned (.tuple #[.int .u64 0,.int .i64 0,.int .i64 1])∧w=w':=by
 by_cases h0:at_<0
 ·go_enter Tryz.func96,Tryz.ntmps96
  go_wp2
  go_ret3
  exact ⟨rfl,rfl⟩
 ·have h1:(s.size:Int)<at_:=by omega
  clear h
  go_enter Tryz.func96,Tryz.ntmps96
  go_wp2
  go_ret3
  exact ⟨rfl,rfl⟩
theorem zHM (t:List UInt8) (hbig:t.length≤1073741824) (w:World) :
  Calls Tryz.prog 39 #[.string (tx t)] w fun e w' =>e=.returned (.string (tx (blob t)))∧Below w.heap.size w w':=by
 obtain ⟨k,hk⟩:∃ k,k=t.length:=⟨_,rfl⟩
 have hv:=zAZ k (by unfold top;omega)
 have hadd:∀ W:World,(Op.stringOp .add (tx (vb k)) (tx t)).run Tryz.prog W=.ok (.string (tx (blob t))) W:=fun W =>by
  rw [blob,← hk]
  exact zAd W (vb k) t (by omega)
 have hput:Hid (∀ W,Calls Tryz.prog 37 #[.int .u64 (k:Int)] W fun e w' =>e=.returned (.string (tx (vb k)))∧Below W.heap.size W w'):=fun W =>zAW k (by unfold top;omega) W
 have hsz:(tx t).size=k:=by rw [zBH,hk]
 have hw1:IntKind.u64.wrap (k:Int)=(k:Int):=by rw [IntKind.wrap_u64];omega
 clear hv hk
 go_enter Tryz.func39,Tryz.ntmps39
 go_wp2_with (go_at_call 37;refine (hput.out _).mono ?_;rintro e w' ⟨rfl,hb⟩)
 go_ret
 exact ⟨rfl,hb⟩
theorem zCK (bs:List UInt8) (i j:Nat):(tx bs).extract i j=tx ((bs.drop i).take (j - i)):=by
 apply ByteArray.ext
 simp [tx,ByteArray.data_extract,List.extract_toArray,List.extract_eq_take_drop]
theorem zFG (s:ByteArray) (at_ most:Int) (e0:Nat) (he:e0=1∨e0=2∨e0=3) (w:World)
  (h:Calls Tryz.prog 96 #[.string s,.int .i64 at_] w fun e w' =>e=.returned (.tuple #[.int .u64 0,.int .i64 0,.int .i64 (e0:Int)])∧w=w') :
  Calls Tryz.prog 66 #[.string s,.int .i64 at_,.int .i64 most] w fun e w' =>e=.returned (bres ([],0,e0))∧w=w':=by
 have H:=yh h
 clear h
 rcases he with rfl | rfl | rfl
 all_goals
  go_enter Tryz.func66,Tryz.ntmps66
  go_wp2_with (go_at_call 96;refine H.out.mono ?_;rintro e w' ⟨rfl,rfl⟩)
  go_ret3
  exact ⟨rfl,rfl⟩
theorem zMj (at_ m k:Nat) (most:Int) (bs:List UInt8) (hn:bs.length≤1073741824) (hmost:most<9223372036854775808) (hm:m<top) (hk:1≤k) (hkn:at_+k≤bs.length) (hg:gr 0 0 (bs.drop at_)=(m,k,0)) (w:World)
  (h:Calls Tryz.prog 96 #[.string (tx bs),.int .i64 (at_:Int)] w fun e w' =>e=.returned (.tuple #[.int .u64 (m:Int),.int .i64 ((at_+k:Nat):Int),.int .i64 0])∧w=w') :
  Calls Tryz.prog 66 #[.string (tx bs),.int .i64 (at_:Int),.int .i64 most] w fun e w' =>e=.returned (bres (bg most at_ bs))∧w=w':=by
 obtain ⟨f,hf⟩:∃ f,f=at_+k:=⟨_,rfl⟩
 rw [← hf] at h hkn
 obtain ⟨n,hl⟩:∃ n,n=bs.length:=⟨_,rfl⟩
 rw [← hl] at hkn hn
 have hf1:1≤f:=by omega
 have hM:(most<0∧max most 0=0)∨(¬ most<0∧max most 0=most):=by omega
 obtain ⟨M,hMM⟩:∃ M,M=max most 0:=⟨_,rfl⟩
 have hsz0:(tx bs).size=n:=by rw [zBH,hl]
 have hex0:=zCK bs f (f+m)
 obtain ⟨s,hs⟩:∃ s,s=tx bs:=⟨_,rfl⟩
 rw [← hs] at h hsz0 hex0 ⊢
 have H:=yh h
 have HF:=yh hf
 have HG:=yh hg
 have HL:=yh hl
 have HM:=yh hm
 have hw:IntKind.u64.wrap M=M:=by rw [IntKind.wrap_u64];omega
 have hw2:IntKind.u64.wrap (n:Int)=(n:Int):=by rw [IntKind.wrap_u64];omega
 clear h hf hg hl hm hs
 have HMM:=yh hMM
 rw [← hMM] at hM
 clear hMM
 by_cases h1:M<(m:Int)
 ·have hres:Hid (bg most at_ bs=([],0,5)):=zDm HG.out (by rw [← HMM.out];exact h1)
  clear hex0
  rcases hM with ⟨hM0,hM1⟩ | ⟨hM0,hM1⟩
  all_goals
   subst hM1
   clear HMM
   go_enter Tryz.func66,Tryz.ntmps66
   go_wp2_with (go_at_call 96;refine H.out.mono ?_;rintro e w' ⟨rfl,rfl⟩)
   go_ret3
   exact ⟨by rw [hres.out];rfl,rfl⟩
 ·by_cases h2:n - f<m
  ·have hres:Hid (bg most at_ bs=([],0,2)):=zDo HG.out (by rw [← HMM.out];exact h1) (by rw [← HL.out,← HF.out];exact h2)
   clear hex0
   rcases hM with ⟨hM0,hM1⟩ | ⟨hM0,hM1⟩
   ·exact absurd h2 (by omega)
   ·subst hM1
    clear HMM
    by_cases h3:n<m
    ·go_enter Tryz.func66,Tryz.ntmps66
     go_wp2_with (go_at_call 96;refine H.out.mono ?_;rintro e w' ⟨rfl,rfl⟩)
     go_ret3
     exact ⟨by rw [hres.out];rfl,rfl⟩
    ·have hw3:IntKind.i64.wrap (m:Int)=(m:Int):=by rw [IntKind.wrap_i64];omega
     have hd:decide ((n:Int)<(f:Int)+(m:Int))=true:=decide_eq_true (by omega)
     go_enter Tryz.func66,Tryz.ntmps66
     go_wp2_with (go_at_call 96;refine H.out.mono ?_;rintro e w' ⟨rfl,rfl⟩)
     go_ret3
     exact ⟨by rw [hres.out];rfl,rfl⟩
  ·have hres:Hid (bg most at_ bs=((bs.drop f).take m,f+m,0)):=by
    have:=zFn HG.out (by rw [← HMM.out];exact h1) (by rw [← HL.out,← HF.out];exact h2)
    rwa [← HF.out] at this
   have hw3:IntKind.i64.wrap (m:Int)=(m:Int):=by rw [IntKind.wrap_i64];omega
   have hle:f+m≤n:=by omega
   obtain ⟨nx,hnx⟩:∃ nx,nx=f+m:=⟨_,rfl⟩
   have hnx':(f:Int)+(m:Int)=(nx:Int):=by omega
   have hnm:¬ n<m:=by omega
   have hsub:f+m - f=m:=by omega
   rw [hsub,← hnx] at hex0
   rw [← hnx] at hle hres
   have hfn:f≤nx:=by omega
   clear hsub
   have HNX:=yh hnx
   clear hnx
   rcases hM with ⟨hM0,hM1⟩ | ⟨hM0,hM1⟩
   all_goals
    subst hM1
    clear HMM
    go_enter Tryz.func66,Tryz.ntmps66
    go_wp2_with (go_at_call 96;refine H.out.mono ?_;rintro e w' ⟨rfl,rfl⟩)
    go_ret3
    exact ⟨by rw [hres.out];rfl,rfl⟩
theorem zHW (at_:Nat) (most:Int) (bs:List UInt8) (hn:bs.length≤1073741824) (hmost:most<9223372036854775808) (hat:at_≤bs.length) (w:World) :
  Calls Tryz.prog 66 #[.string (tx bs),.int .i64 (at_:Int),.int .i64 most] w fun e w' =>e=.returned (bres (bg most at_ bs))∧w=w':=by
 have h:=zHN at_ bs hn hat w
 rcases zCS (bs.drop at_) 0 0 with hg | hg | ⟨m,k,hg⟩
 ·rw [hg] at h
  have hb:bg most at_ bs=([],0,2):=zDJ hg (by decide)
  rw [hb]
  exact zFG (tx bs) at_ most 2 (by omega) w h
 ·rw [hg] at h
  have hb:bg most at_ bs=([],0,3):=zDJ hg (by decide)
  rw [hb]
  exact zFG (tx bs) at_ most 3 (by omega) w h
 ·obtain ⟨hm,hk1,hk2,_⟩:=zFU hg
  rw [List.length_drop] at hk2
  rw [hg] at h
  exact zMj at_ m k most bs hn hmost hm hk1 (by omega) hg w h
theorem zLF (bs:List UInt8) (at_ most:Int) (h:at_<0∨(bs.length:Int)<at_) (w:World) :
  Calls Tryz.prog 66 #[.string (tx bs),.int .i64 at_,.int .i64 most] w fun e w' =>e=.returned (bres ([],0,1))∧w=w' :=
 zFG (tx bs) at_ most 1 (by omega) w (zGJ (tx bs) at_ (by rw [zBH];exact h) w)
theorem zLG (v:Int) (h:ver v=false) (w:World):Calls Tryz.prog 16 #[.int .i64 v] w fun e w' =>e=.returned (.tuple #[.string (tx []),.int .i64 11])∧w=w':=by
 have hem:(tx ([]:List UInt8))=⟨#[]⟩:=rfl
 rw [hem]
 by_cases h1:v<1
 ·clear h
  go_enter Tryz.func16,Tryz.ntmps16
  go_wp2
  go_ret2
  exact ⟨rfl,rfl⟩
 ·have h3:3<v:=by
   by_cases h3:3<v
   ·exact h3
   ·rw [zEK (by omega)] at h;cases h
  clear h
  go_enter Tryz.func16,Tryz.ntmps16
  go_wp2
  go_ret2
  exact ⟨rfl,rfl⟩
theorem zNZ (v:Nat) (h:1≤v∧v≤3) (w:World):Calls Tryz.prog 16 #[.int .i64 (v:Int)] w fun e w' =>e=.returned (.tuple #[.string (tx (hd v)),.int .i64 0])∧Below w.heap.size w w':=by
 have n1:¬ ((v:Int)<1):=by omega
 have n2:¬ (3<(v:Int)):=by omega
 have hw1:IntKind.u8.wrap (v:Int)=(v:Int):=by rw [IntKind.wrap_u8'];omega
 have hrow:=zFQ w 5 [UInt8.ofNat v] (0,0)
 have hcv:=zAn (P:=Tryz.prog) (src:=25) (dst:=9) (c:=1) Tryz.underlying25 Tryz.underlying5 Tryz.underlying9 hrow
 have hm:([UInt8.ofNat v].map bv)=[Value.int .u8 (v:Int)]:=by rw [List.map_cons,zKn (by omega)];rfl
 rw [hm] at hcv
 have hcv2:(convert 25 9 (.slice (some ⟨w.heap.size,0,none⟩) 1 1)).run Tryz.prog (w.alloc (.cells #[.int .u8 (v:Int)] 5))=.ok (.string (tx [UInt8.ofNat v])) (w.alloc (.cells #[.int .u8 (v:Int)] 5)):=hcv
 have hadd:∀ W:World,(Op.stringOp .add ({ data:=#[84,80,72] }:ByteArray) (tx [UInt8.ofNat v])).run Tryz.prog W=.ok (.string (tx (hb v))) W:=fun W =>zAd W [84,80,72] [UInt8.ofNat v] (by simp)
 have HS:Hid (∀ W:World,Calls Tryz.prog 32 #[.string (tx (hb v))] W fun e w' =>e=.returned (wv (crc (hb v)))∧W=w'):=fun W =>zDh (hb v) (by simp [hb]) W
 have hadd2:∀ W:World,(Op.stringOp .add (tx (hb v)) (tx (lb (crc (hb v))))).run Tryz.prog W=.ok (.string (tx (hd v))) W:=fun W =>zAd W (hb v) (lb (crc (hb v))) (by simp [hb,zDU])
 obtain ⟨q,hq⟩:∃ q,q=crc (hb v):=⟨_,rfl⟩
 have HB:Hid (∀ W:World,Calls Tryz.prog 31 #[wv q] W fun e w' =>e=.returned (.string (tx (lb q)))∧Below W.heap.size W w'):=fun W =>zCv q W
 rw [← hq] at HS hadd2
 generalize tx (hd v)=t3 at hadd2 ⊢
 generalize tx (hb v)=t2 at HS hadd hadd2
 generalize tx [UInt8.ofNat v]=t1 at hcv2 hadd
 generalize tx (lb q)=t4 at HB hadd2
 generalize wv q=q2 at HS HB
 clear hq hcv hm hrow h
 go_enter Tryz.func16,Tryz.ntmps16
 go_wp2_with (first
  | (go_at_call 32;refine (HS.out _).mono ?_;rintro e w1 ⟨rfl,rfl⟩)
  | (go_at_call 31;refine (HB.out _).mono ?_;rintro e w2 ⟨rfl,hb2⟩))
 go_ret2
 exact ⟨rfl,((Below.refl _ w).alloc (Nat.le_refl _) _).trans (hb2.mono (by simp))⟩
theorem zFW (bs:List UInt8) (hn:bs.length≤1073741824) (w:World) :
  Calls Tryz.prog 23 #[.string (tx bs)] w fun e w' =>e=.returned (.tuple #[.int .i64 ((vg bs).1:Int),.int .i64 ((vg bs).2:Int)])∧Below w.heap.size w w':=by
 obtain ⟨n,hnl⟩:∃ n,n=bs.length:=⟨_,rfl⟩
 rw [← hnl] at hn
 obtain ⟨s,hs⟩:∃ s,s=tx bs:=⟨_,rfl⟩
 have hsz:s.size=n:=by rw [hs,zBH,hnl]
 rw [← hs]
 by_cases h8:n<8
 ·rw [vg,if_pos (by omega)]
  clear hs hnl
  go_enter Tryz.func23,Tryz.ntmps23
  go_wp2
  go_ret2
  exact ⟨rfl,Below.refl _ _⟩
 have x3:s.extract 0 3=tx (bs.take 3):=by rw [hs,zCK];rfl
 by_cases h3:bs.take 3=[84,80,72]
 ·have hs3:((tx (bs.take 3)).toList == [84,80,72])=true:=by rw [zBG,h3];rfl
  obtain ⟨t3,ht3⟩:∃ t,t=tx (bs.take 3):=⟨_,rfl⟩
  rw [← ht3] at hs3 x3
  have x4:s.extract 0 4=tx (bs.take 4):=by rw [hs,zCK];rfl
  have x8:s.extract 4 8=tx ((bs.drop 4).take 4):=by rw [hs,zCK]
  obtain ⟨x,hx⟩:∃ x,bs[3]? = some x:=⟨_,List.getElem?_eq_getElem (by omega)⟩
  have hhd:(bs.drop 3).headD 0=x:=by
   have:(bs.drop 3)[0]? = some x:=by rw [List.getElem?_drop];exact hx
   rw [List.headD_eq_head?_getD,List.head?_eq_getElem?,this];rfl
  have p3:3<s.size:=by omega
  obtain ⟨y,hy,hyd⟩:=zFt hs 3 p3
  have hyx:y=x:=by rw [hyd] at hhd;exact hhd
  have i3:(s[3]'p3).toNat=x.toNat:=by rw [← hy,hyx]
  have HS:Hid (∀ W:World,Calls Tryz.prog 32 #[.string (tx (bs.take 4))] W fun e w' =>e=.returned (wv (crc (bs.take 4)))∧W=w'):=fun W =>zDh (bs.take 4) (by rw [List.length_take];omega) W
  rw [vg,if_neg (by omega),if_neg (by simpa using h3),hhd]
  have hx256:x.toNat<256:=x.toNat_lt
  obtain ⟨v,hv⟩:∃ v,v=x.toNat:=⟨_,rfl⟩
  rw [← hv] at i3 hx256 ⊢
  have hwr:IntKind.i64.wrap (v:Int)=(v:Int):=by rw [IntKind.wrap_i64];omega
  obtain ⟨q,hq⟩:∃ q,q=crc (bs.take 4):=⟨_,rfl⟩
  rw [← hq] at HS ⊢
  have HB:Hid (∀ W:World,Calls Tryz.prog 31 #[wv q] W fun e w' =>e=.returned (.string (tx (lb q)))∧Below W.heap.size W w'):=fun W =>zCv q W
  by_cases hc4:lb q=(bs.drop 4).take 4
  ·rw [if_neg (by simpa using hc4)]
   rw [← hc4] at x8
   have hself:((tx (lb q)).toList == (tx (lb q)).toList)=true:=by simp
   generalize tx (lb q)=t8 at x8 HB hself
   generalize tx (bs.take 4)=t4 at x4 HS
   generalize wv q=q2 at HS HB
   clear hc4 hq hv hx hhd hy hyd hyx h3 ht3 hs hnl
   by_cases hvv:ver (v:Int)=true
   ·rw [if_neg (by rw [hvv];simp)]
    have n1:¬ ((v:Int)<1):=fun h =>by rw [zDp (.inl (by omega))] at hvv;cases hvv
    have n2:¬ (3<(v:Int)):=fun h =>by rw [zDp (.inr (by omega))] at hvv;cases hvv
    clear hvv
    go_enter Tryz.func23,Tryz.ntmps23
    go_wp2_with fail
    have hS0:Below w.heap.size w w.drew:=(Below.refl _ w).drew
    refine wp_region_held (S:=fun W =>Below w.heap.size w W) (by kernel_rfl) ?_
    refine zAB 0 (.string s) rfl (by kernel_rfl) (by kernel_rfl) (by kernel_rfl) (fun _ _ _ h =>h) (by kernel_rfl) hS0 (fun _ _ =>by kernel_rfl) ?_
    refine zAB 1 (.string t4) rfl (by kernel_rfl) (by kernel_rfl) (by kernel_rfl) (fun _ _ _ h =>h) (by kernel_rfl) hS0 (by intro w' hb;go_simp <;> (intro hh;omega)) ?_
    refine zAB 4 (.string s) rfl (by kernel_rfl) (by kernel_rfl) (by kernel_rfl) (fun _ _ _ h =>h) (by kernel_rfl) hS0 (fun _ _ =>by kernel_rfl) ?_
    refine zAB 5 (.string t8) rfl (by kernel_rfl) (by kernel_rfl) (by kernel_rfl) (fun _ _ _ h =>h) (by kernel_rfl) hS0 (by intro w' hb;go_simp <;> (intro hh;omega)) ?_
    refine zAP 2 rfl (by kernel_rfl) (by kernel_rfl) (fun K hK =>?_)
    go_simp
    refine (HS.out _).mono ?_
    rintro e w6 ⟨rfl,rfl⟩
    refine hK _ _ hS0 ?_
    clear hK K
    refine zAP 3 rfl (by kernel_rfl) (by kernel_rfl) (fun K hK =>?_)
    go_simp
    refine (HB.out _).mono ?_
    rintro e w5 ⟨rfl,hb5⟩
    have hS5:Below w.heap.size w w5:=hS0.trans (hb5.mono hS0.size)
    clear hb5
    refine hK _ _ hS5 ?_
    clear hK K
    refine zAB 6 (.bool false) rfl (by kernel_rfl) (by kernel_rfl) (by kernel_rfl) (fun _ _ _ h =>h) (by kernel_rfl) hS5 (by intro w' hb;go_simp) ?_
    refine wpAnyH_done (by kernel_rfl) ?_ _
    go_simp
    go_wp2
    go_ret2
    exact ⟨rfl,hS5⟩
   ·have hvf:ver (v:Int)=false:=by simpa using hvv
    rw [if_pos hvf]
    by_cases n1:(v:Int)<1
    ·clear hvv hvf
     go_enter Tryz.func23,Tryz.ntmps23
     go_wp2_with fail
     have hS0:Below w.heap.size w w.drew:=(Below.refl _ w).drew
     refine wp_region_held (S:=fun W =>Below w.heap.size w W) (by kernel_rfl) ?_
     refine zAB 0 (.string s) rfl (by kernel_rfl) (by kernel_rfl) (by kernel_rfl) (fun _ _ _ h =>h) (by kernel_rfl) hS0 (fun _ _ =>by kernel_rfl) ?_
     refine zAB 1 (.string t4) rfl (by kernel_rfl) (by kernel_rfl) (by kernel_rfl) (fun _ _ _ h =>h) (by kernel_rfl) hS0 (by intro w' hb;go_simp <;> (intro hh;omega)) ?_
     refine zAB 4 (.string s) rfl (by kernel_rfl) (by kernel_rfl) (by kernel_rfl) (fun _ _ _ h =>h) (by kernel_rfl) hS0 (fun _ _ =>by kernel_rfl) ?_
     refine zAB 5 (.string t8) rfl (by kernel_rfl) (by kernel_rfl) (by kernel_rfl) (fun _ _ _ h =>h) (by kernel_rfl) hS0 (by intro w' hb;go_simp <;> (intro hh;omega)) ?_
     refine zAP 2 rfl (by kernel_rfl) (by kernel_rfl) (fun K hK =>?_)
     go_simp
     refine (HS.out _).mono ?_
     rintro e w6 ⟨rfl,rfl⟩
     refine hK _ _ hS0 ?_
     clear hK K
     refine zAP 3 rfl (by kernel_rfl) (by kernel_rfl) (fun K hK =>?_)
     go_simp
     refine (HB.out _).mono ?_
     rintro e w5 ⟨rfl,hb5⟩
     have hS5:Below w.heap.size w w5:=hS0.trans (hb5.mono hS0.size)
     clear hb5
     refine hK _ _ hS5 ?_
     clear hK K
     refine zAB 6 (.bool false) rfl (by kernel_rfl) (by kernel_rfl) (by kernel_rfl) (fun _ _ _ h =>h) (by kernel_rfl) hS5 (by intro w' hb;go_simp) ?_
     refine wpAnyH_done (by kernel_rfl) ?_ _
     go_simp
     go_wp2
     go_ret2
     exact ⟨rfl,hS5⟩
    ·have n2:3<(v:Int):=by
      by_cases h3:3<(v:Int)
      ·exact h3
      ·rw [zEK (by omega)] at hvf;cases hvf
     clear hvv hvf
     go_enter Tryz.func23,Tryz.ntmps23
     go_wp2_with fail
     have hS0:Below w.heap.size w w.drew:=(Below.refl _ w).drew
     refine wp_region_held (S:=fun W =>Below w.heap.size w W) (by kernel_rfl) ?_
     refine zAB 0 (.string s) rfl (by kernel_rfl) (by kernel_rfl) (by kernel_rfl) (fun _ _ _ h =>h) (by kernel_rfl) hS0 (fun _ _ =>by kernel_rfl) ?_
     refine zAB 1 (.string t4) rfl (by kernel_rfl) (by kernel_rfl) (by kernel_rfl) (fun _ _ _ h =>h) (by kernel_rfl) hS0 (by intro w' hb;go_simp <;> (intro hh;omega)) ?_
     refine zAB 4 (.string s) rfl (by kernel_rfl) (by kernel_rfl) (by kernel_rfl) (fun _ _ _ h =>h) (by kernel_rfl) hS0 (fun _ _ =>by kernel_rfl) ?_
     refine zAB 5 (.string t8) rfl (by kernel_rfl) (by kernel_rfl) (by kernel_rfl) (fun _ _ _ h =>h) (by kernel_rfl) hS0 (by intro w' hb;go_simp <;> (intro hh;omega)) ?_
     refine zAP 2 rfl (by kernel_rfl) (by kernel_rfl) (fun K hK =>?_)
     go_simp
     refine (HS.out _).mono ?_
     rintro e w6 ⟨rfl,rfl⟩
     refine hK _ _ hS0 ?_
     clear hK K
     refine zAP 3 rfl (by kernel_rfl) (by kernel_rfl) (fun K hK =>?_)
     go_simp
     refine (HB.out _).mono ?_
     rintro e w5 ⟨rfl,hb5⟩
     have hS5:Below w.heap.size w w5:=hS0.trans (hb5.mono hS0.size)
     clear hb5
     refine hK _ _ hS5 ?_
     clear hK K
     refine zAB 6 (.bool false) rfl (by kernel_rfl) (by kernel_rfl) (by kernel_rfl) (fun _ _ _ h =>h) (by kernel_rfl) hS5 (by intro w' hb;go_simp) ?_
     refine wpAnyH_done (by kernel_rfl) ?_ _
     go_simp
     go_wp2
     go_ret2
     exact ⟨rfl,hS5⟩
  ·rw [if_pos hc4]
   have hne:((tx (lb q)).toList == (tx ((bs.drop 4).take 4)).toList)=false:=by rw [zBG,zBG];simpa using hc4
   generalize tx (lb q)=t9 at HB hne
   generalize tx ((bs.drop 4).take 4)=t8 at x8 hne
   generalize tx (bs.take 4)=t4 at x4 HS
   generalize wv q=q2 at HS HB
   clear hc4 hq hv hx hhd hy hyd hyx h3 ht3 hs hnl
   go_enter Tryz.func23,Tryz.ntmps23
   go_wp2_with fail
   have hS0:Below w.heap.size w w.drew:=(Below.refl _ w).drew
   refine wp_region_held (S:=fun W =>Below w.heap.size w W) (by kernel_rfl) ?_
   refine zAB 0 (.string s) rfl (by kernel_rfl) (by kernel_rfl) (by kernel_rfl) (fun _ _ _ h =>h) (by kernel_rfl) hS0 (fun _ _ =>by kernel_rfl) ?_
   refine zAB 1 (.string t4) rfl (by kernel_rfl) (by kernel_rfl) (by kernel_rfl) (fun _ _ _ h =>h) (by kernel_rfl) hS0 (by intro w' hb;go_simp <;> (intro hh;omega)) ?_
   refine zAB 4 (.string s) rfl (by kernel_rfl) (by kernel_rfl) (by kernel_rfl) (fun _ _ _ h =>h) (by kernel_rfl) hS0 (fun _ _ =>by kernel_rfl) ?_
   refine zAB 5 (.string t8) rfl (by kernel_rfl) (by kernel_rfl) (by kernel_rfl) (fun _ _ _ h =>h) (by kernel_rfl) hS0 (by intro w' hb;go_simp <;> (intro hh;omega)) ?_
   refine zAP 2 rfl (by kernel_rfl) (by kernel_rfl) (fun K hK =>?_)
   go_simp
   refine (HS.out _).mono ?_
   rintro e w6 ⟨rfl,rfl⟩
   refine hK _ _ hS0 ?_
   clear hK K
   refine zAP 3 rfl (by kernel_rfl) (by kernel_rfl) (fun K hK =>?_)
   go_simp
   refine (HB.out _).mono ?_
   rintro e w5 ⟨rfl,hb5⟩
   have hS5:Below w.heap.size w w5:=hS0.trans (hb5.mono hS0.size)
   clear hb5
   refine hK _ _ hS5 ?_
   clear hK K
   refine zAB 6 (.bool true) rfl (by kernel_rfl) (by kernel_rfl) (by kernel_rfl) (fun _ _ _ h =>h) (by kernel_rfl) hS5 (by intro w' hb;go_simp) ?_
   refine wpAnyH_done (by kernel_rfl) ?_ _
   go_simp
   go_wp2
   go_ret2
   exact ⟨rfl,hS5⟩
 ·have hne:((tx (bs.take 3)).toList == [84,80,72])=false:=by rw [zBG];simpa using h3
  rw [vg,if_neg (by omega),if_pos h3]
  generalize tx (bs.take 3)=t3 at x3 hne
  clear h3 hs hnl
  go_enter Tryz.func23,Tryz.ntmps23
  go_wp2
  go_ret2
  exact ⟨rfl,Below.refl _ _⟩
theorem zMm (p:List UInt8) (h:pay p) (w:World) :
  Calls Tryz.prog 18 #[.string (tx p)] w fun e w' =>e=.returned (.tuple #[.string (tx (fr p)),.int .i64 0])∧Below w.heap.size w w':=by
 have hsz:(tx p).size=p.length:=zBH p
 have hne:((tx p).toList == [])=false:=by rw [zBG];simpa using zLm h
 obtain ⟨h1,h2⟩:=h
 have hbl:(blob p).length≤2048+10:=by rw [zDn];have:=zAZ p.length (by unfold top;omega);omega
 obtain ⟨m,hm⟩:∃ m,m=p.length:=⟨_,rfl⟩
 have HP:Hid (∀ W:World,Calls Tryz.prog 39 #[.string (tx p)] W fun e w' =>e=.returned (.string (tx (blob p)))∧Below W.heap.size W w'):=fun W =>zHM p (by omega) W
 rw [← hm] at hsz h1 h2
 have hgt:decide (2048<(m:Int))=false:=by rw [decide_eq_false_iff_not];omega
 have HS:Hid (∀ W:World,Calls Tryz.prog 32 #[.string (tx (blob p))] W fun e w' =>e=.returned (wv (crc (blob p)))∧W=w'):=fun W =>zDh (blob p) (by omega) W
 have HB:Hid (∀ W:World,Calls Tryz.prog 31 #[wv (crc (blob p))] W fun e w' =>e=.returned (.string (tx (lb (crc (blob p)))))∧Below W.heap.size W w'):=fun W =>zCv _ W
 have hadd2:∀ W:World,(Op.stringOp .add (tx (blob p)) (tx (lb (crc (blob p))))).run Tryz.prog W=.ok (.string (tx (fr p))) W:=fun W =>zAd W (blob p) (lb (crc (blob p))) (by rw [zDU];omega)
 generalize tx (fr p)=t3 at hadd2 ⊢
 generalize tx (lb (crc (blob p)))=t4 at HB hadd2
 generalize wv (crc (blob p))=q2 at HS HB
 generalize tx (blob p)=t2 at HP HS hadd2
 generalize tx p=s at hne hsz HP ⊢
 clear hm h1 h2 hbl
 go_enter Tryz.func18,Tryz.ntmps18
 go_wp2_with (first
  | (go_at_call 39;refine (HP.out _).mono ?_;rintro e w0 ⟨rfl,hb0⟩)
  | (go_at_call 32;refine (HS.out _).mono ?_;rintro e w1 ⟨rfl,rfl⟩)
  | (go_at_call 31;refine (HB.out _).mono ?_;rintro e w2 ⟨rfl,hb2⟩))
 go_ret2
 exact ⟨rfl,hb0.trans (hb2.mono hb0.size)⟩
end Go.Proofs.YtoclafdidjpndaaGreatDoor
