/- Texts of one proof. -/
import Derived.Lib.AtoiErrMem
import Derived.Lib.ParseIntB
import Derived.Lib.Strings
import Derived.Recover
import Derived.Test.YtgoklhoaedceaaaGreatDoorMx15
set_option maxRecDepth 100000
set_option maxHeartbeats 8000000
namespace Go.Proofs.YtgoklhoaedceaaaGreatDoor
open Go.RowKit
theorem zGa (z:Nat) (hz:z<18446744073709551616) (r:List UInt8):Lib.parseUintM (2 ^ 64 - 1) 0 (Lib.decDigits z++r)=Lib.parseUintM (2 ^ 64 - 1) z r:=by
 induction z using Nat.strongRecOn generalizing r with
 | _ z ih =>
  have hd:∀ m,m<10→48≤(UInt8.ofNat (48+m)).toNat∧(UInt8.ofNat (48+m)).toNat≤57:=fun m hm =>by
   have:∀ k:Fin 10,48≤(UInt8.ofNat (48+k.val)).toNat∧(UInt8.ofNat (48+k.val)).toNat≤57:=by decide
   exact this ⟨m,hm⟩
  by_cases h:z<10
  ·rw [zAY h]
   show Lib.parseUintM (2 ^ 64 - 1) 0 (UInt8.ofNat (48+z) :: r)=_
   rw [Lib.parseUintM,if_pos (hd z h),if_neg (by omega),zCq h,if_neg (by omega)]
   congr 1
   omega
  ·rw [zBZ h,List.append_assoc,ih (z / 10) (by omega) (by omega),zAY (show z % 10<10 by omega)]
   show Lib.parseUintM (2 ^ 64 - 1) (z / 10) (UInt8.ofNat (48+z % 10) :: r)=_
   rw [Lib.parseUintM,if_pos (hd _ (by omega)),if_neg (by omega),zCq (by omega),if_neg (by omega)]
   congr 1
   omega
theorem zDn (z:Nat):Lib.decDigits z≠[]:=by
 by_cases h:z<10
 ·rw [zAY h];simp
 ·rw [zBZ h,zAY (show z % 10<10 by omega)];simp
theorem zIw (z:Nat) (hz:z<18446744073709551616):Lib.parseUintB 64 (Lib.decDigits z)=.ok z:=by
 unfold Lib.parseUintB
 rw [if_neg (zDn z)]
 have:=zGa z hz []
 rw [List.append_nil] at this
 exact this
def nmO (w:List UInt8):Option Nat:=match Lib.parseUintB 64 w with | .ok u =>some u | _ =>none
def cutO (w:List UInt8):List UInt8×Bool:=(Lib.trimSuffix w [33],Lib.hasSuffix w [33])
def dpO (a b:List UInt8):Option Dp:=if (eget a).2=true∧(rans (cutO b).1).2=true then some ⟨(eget a).1,((rans (cutO b).1).1:Int),(cutO b).2⟩ else none
def dpsO:List (List UInt8)→Option (List Dp)
 | [] =>some []
 | [_] =>none
 | a :: b :: r =>match dpO a b with | none =>none | some d =>(dpsO r).map (d :: ·)
def lnO:List (List UInt8)→Option (Rc×List Dp)
 | t :: u :: o :: m :: g :: r =>
  if (eget t).2=true∧(rans u).2=true∧(rans o).2=true∧(nmO m).isSome=true∧(eget g).2=true then (dpsO r).map fun l =>(⟨1,(eget t).1,((rans u).1:Int),((rans o).1:Int),(((nmO m).getD 0:Nat):Int),(eget g).1⟩,l) else none
 | _ =>none
theorem zDb (z:Nat) (h:z<18446744073709551616):rans (hexl z 16)=(z,true):=by
 unfold rans
 rw [zAr,if_pos rfl,zHY]
 show (0 * 16 ^ 16+z % 16 ^ 16,true)=_
 rw [Nat.zero_mul,Nat.zero_add,Nat.mod_eq_of_lt (by simpa using h)]
theorem zGJ (h:Nat):∀ (k:Nat) {b:UInt8},b ∈ hexl h k→b≠33
 | 0,b,hb =>by simp [hexl] at hb
 | k+1,b,hb =>by
  rw [hexl,List.mem_cons] at hb
  rcases hb with rfl | hb
  ·have:∀ m:Fin 16,dig m.val≠33:=by decide
   exact this ⟨h / 16 ^ k % 16,Nat.mod_lt _ (by omega)⟩
  ·exact zGJ h k hb
theorem zJU (z:Nat) (o:Bool):cutO (hexl z 16++(if o then [33] else []))=(hexl z 16,o):=by
 unfold cutO
 cases o with
 | true =>
  have h1:Lib.hasSuffix (hexl z 16++[33]) [33]=true:=List.isSuffixOf_iff_suffix.2 (List.suffix_append _ _)
  simp only [if_true,h1,Lib.trimSuffix]
  simp
 | false =>
  have h1:Lib.hasSuffix (hexl z 16++[]) [33]=false:=by
   rw [Bool.eq_false_iff]
   intro h
   have h2:=List.isSuffixOf_iff_suffix.1 h
   rw [List.append_nil] at h2
   exact zGJ z 16 (h2.subset List.mem_cons_self) rfl
  rw [List.append_nil] at h1
  simp only [Bool.false_eq_true,if_false,Lib.trimSuffix,List.append_nil,h1]
theorem zLM (d:Dp) (h:0≤d.hash∧d.hash<18446744073709551616):dpO (eput d.name) (zBE d)=some d:=by
 unfold dpO zBE
 rw [zJU,zCs]
 simp only
 rw [zDb _ (by omega)]
 simp only [and_self,if_true]
 obtain ⟨n,z,o⟩:=d
 simp only at h ⊢
 rw [Int.toNat_of_nonneg h.1]
theorem zHN:∀ l:List Dp,(∀ d ∈ l,0≤d.hash∧d.hash<18446744073709551616)→dpsO (l.flatMap zAe)=some l
 | [],_ =>rfl
 | d :: l,h =>by
  show dpsO (eput d.name :: zBE d :: l.flatMap zAe)=_
  rw [dpsO,zLM d (h d List.mem_cons_self),zHN l (fun e he =>h e (List.mem_cons_of_mem _ he))]
  rfl
theorem zLS (z:Nat) (hz:z<18446744073709551616):nmO (Lib.decDigits z)=some z:=by unfold nmO;rw [zIw z hz]
theorem zCH {v:Int} {r:Rc} {l:List Dp} (h:MayP v r l):r.target.length≤64∧r.tag.length≤64∧l.length≤16∧∀ d ∈ l,d.name.length≤64:=by
 obtain ⟨_,_,ht,h⟩:=h
 have h0:r.target.length≤64:=(of_decide_eq_true ht).2
 rcases h with ⟨_,_,hg,hd⟩ | ⟨_,hr,hl⟩
 ·refine ⟨h0,?_,hd.1,fun d hm =>?_⟩
  ·rcases hg with hg | hg
   ·rw [hg];simp
   ·exact hg.2
  ·exact (of_decide_eq_true (hd.2.1 d hm).1).2
 ·refine ⟨h0,?_,by rw [hl];simp,by rw [hl];simp⟩
  rw [hr];simp
theorem zLP {x:Rw} (hx:zBA x) (k:lnOk x):lnO (words (lnT x))=some x.say:=by
 obtain ⟨_,⟨hu,ho,hm,hd⟩,_⟩:=hx
 unfold lnT
 rw [zDB _ (zFd _ _ _ _ _ _) (fun w hw b hb =>zGp hw b hb)]
 show lnO (eput x.r.target :: hexl x.r.rule.toNat 16 :: hexl x.r.out.toNat 16 :: Lib.decDigits x.r.time.toNat :: eput x.r.tag :: x.l.flatMap zAe)=_
 simp only [lnO]
 rw [zCs,zCs,zDb _ (by omega),zDb _ (by omega),zLS _ (by omega),zHN x.l hd]
 simp only [Option.isSome_some,and_self,if_true,Option.map_some,Option.getD_some]
 obtain ⟨⟨rk,rt,ru,ro,rm,rg⟩,A,n,c,l⟩:=x
 have hk:rk=1:=k.1
 subst hk
 simp only [Rw.say] at hu ho hm ⊢
 rw [Int.toNat_of_nonneg hu.1,Int.toNat_of_nonneg ho.1,Int.toNat_of_nonneg hm.1]
def zAy (line:List UInt8) (r:Rc) (l:List Dp):Prop:=Fits r l∧Nums r l∧r.kind=1∧MayP 3 r l∧zAU (zAu r.target r.rule.toNat r.out.toNat r.time.toNat r.tag l)=line
theorem zAy.good {line:List UInt8} {r:Rc} {l:List Dp} (h:zAy line r l) (A:Option Addr) (n c:Nat):zBA ⟨r,A,n,c,l⟩∧lnOk ⟨r,A,n,c,l⟩∧lnT ⟨r,A,n,c,l⟩=line:=by
 obtain ⟨h1,h2,h3,h4,h5⟩:=h
 obtain ⟨m1,m2,m3,m4⟩:=zCH h4
 exact ⟨⟨h1,h2,fun d hd =>Nat.le_trans (m4 d hd) (by omega),by show l.length≤60;omega,by show r.target.length≤300;omega,by show r.tag.length≤300;omega⟩,⟨h3,h4⟩,h5⟩
theorem zAy.read {line:List UInt8} {r:Rc} {l:List Dp} (h:zAy line r l):lnO (words line)=some (r,l):=by
 obtain ⟨h1,h2,h3⟩:=h.good none 0 0
 have:=zLP h1 h2
 rw [h3] at this
 exact this
theorem zKn (s:ByteArray) (c:UInt8) (w:World) :
  Calls Tryz.prog 100 #[.string s,.int .u8 (c.toNat:Int)] w fun e w' =>e=.returned (.int .i64 (firstIdx s c))∧w=w':=by
 have he:=fun W =>(run_callFunc_extern (P:=Tryz.prog) (f:=134) (e:=Extern.BytealgIndexByte.indexByte) Tryz.func134 (by kernel_rfl) (by kernel_rfl) (by kernel_rfl) (by kernel_rfl)
  #[.string s,.int .u8 (c.toNat:Int)] W).trans (by rw [run_indexByte_string])
 have hc:((c.toNat:Int)).toNat.toUInt8=c:=by simp
 rw [hc] at he
 clear hc
 generalize firstIdx s c=r at *
 generalize (c.toNat:Int)=v at *
 go_enter Tryz.func100,Tryz.ntmps100
 go_wp2
 go_ret
 exact ⟨rfl,rfl⟩
def hixb (c:UInt8):Int:=match hval c with | some d =>(d:Int) | none =>-1
theorem zHU (c:UInt8) (w:World) :
  Calls Tryz.prog 100 #[.string { data:=#[48,49,50,51,52,53,54,55,56,57,97,98,99,100,101,102] },.int .u8 (c.toNat:Int)] w fun e w' =>e=.returned (.int .i64 (hixb c))∧w'=w:=by
 have hf:firstIdx { data:=#[48,49,50,51,52,53,54,55,56,57,97,98,99,100,101,102] } c=hixb c:=by
  have:=zFS ⟨c.toNat,c.toNat_lt⟩
  have e:UInt8.ofNat c.toNat=c:=by simp
  simp only [e] at this
  exact this
 refine (zKn _ c w).mono fun e w' h =>⟨?_,h.2.symm⟩
 rw [← hf]
 exact h.1
def ahv (c:UInt8) (l:List UInt8):Value:=.tuple #[.int .u8 ((ahd c l).1.toNat:Int),.int .i64 ((ahd c l).2:Int)]
theorem zIK {c:UInt8} {l:List UInt8} (h:c≠92):ahd c l=(c,1):=by
 unfold ahd
 split
 ·rw [if_neg h]
 ·rfl
theorem zIL {c:UInt8} {l:List UInt8} (h:l.length<2):ahd c l=(c,1):=by
 unfold ahd
 split
 ·simp at h;omega
 ·rfl
theorem zLT (xa xb:Int) (h0:0≤xa) (h1:xa<16) (h2:0≤xb) (h3:xb<16):bits .or .i64 (xa * 16) xb=16 * xa+xb:=by
 have h4:=bits_join .i64 62 (by decide) (fun n h1 h2 =>by rw [IntKind.wrap_i64];omega) 4 (xa * 16) xb (by omega) (by omega) (by omega) h2 (by omega) (by omega)
 rw [h4];omega
theorem zFy (s:ByteArray) (a b xa xb:Int) (k0:0<s.size) (k1:1<s.size) (k2:2<s.size) (hle:s.size≤6000) (HS0:s[0].toNat=92) (HS1:(s[1].toNat:Int)=a) (HS2:(s[2].toNat:Int)=b)
  (HA:Hid (∀ W,Calls Tryz.prog 100 #[.string { data:=#[48,49,50,51,52,53,54,55,56,57,97,98,99,100,101,102] },.int .u8 a] W fun e w' =>e=.returned (.int .i64 xa)∧w'=W))
  (HB:Hid (∀ W,Calls Tryz.prog 100 #[.string { data:=#[48,49,50,51,52,53,54,55,56,57,97,98,99,100,101,102] },.int .u8 b] W fun e w' =>e=.returned (.int .i64 xb)∧w'=W))
  (hc:xa<0∨(0≤xa∧xb<0)) (w:World) :
  Calls Tryz.prog 124 #[.string s] w fun e w' =>e=.returned (.tuple #[.int .u8 92,.int .i64 1])∧Below w.heap.size w w':=by
 rcases hc with hc | ⟨hc0,hc⟩
 all_goals
  go_enter Tryz.func124,Tryz.ntmps124
  go_wp2
  go_quiet ((first | (go_at_call 100;exact Calls.quiet_of_same (HA.out _)) | (go_at_call 100;exact Calls.quiet_of_same (HB.out _))))
  go_wp2
  go_ret2
  exact ⟨rfl,zBs _ w _⟩
theorem zIO (s:ByteArray) (a b xa xb:Int) (k0:0<s.size) (k1:1<s.size) (k2:2<s.size) (hle:s.size≤6000) (HS0:s[0].toNat=92) (HS1:(s[1].toNat:Int)=a) (HS2:(s[2].toNat:Int)=b)
  (HA:Hid (∀ W,Calls Tryz.prog 100 #[.string { data:=#[48,49,50,51,52,53,54,55,56,57,97,98,99,100,101,102] },.int .u8 a] W fun e w' =>e=.returned (.int .i64 xa)∧w'=W))
  (HB:Hid (∀ W,Calls Tryz.prog 100 #[.string { data:=#[48,49,50,51,52,53,54,55,56,57,97,98,99,100,101,102] },.int .u8 b] W fun e w' =>e=.returned (.int .i64 xb)∧w'=W))
  (h0:0≤xa) (h1:xa<16) (h2:0≤xb) (h3:xb<16) (w:World) :
  Calls Tryz.prog 124 #[.string s] w fun e w' =>e=.returned (.tuple #[.int .u8 (16 * xa+xb),.int .i64 3])∧Below w.heap.size w w':=by
 have hor:=zLT xa xb h0 h1 h2 h3
 go_enter Tryz.func124,Tryz.ntmps124
 go_wp2
 go_quiet ((first | (go_at_call 100;exact Calls.quiet_of_same (HA.out _)) | (go_at_call 100;exact Calls.quiet_of_same (HB.out _))))
 go_wp2
 go_ret2
 exact ⟨rfl,zBs _ w _⟩
theorem zIN (c:UInt8) (l:List UInt8) (hl:l.length≤5000) (w:World) :
  Calls Tryz.prog 124 #[.string (tx (c :: l))] w fun e w' =>e=.returned (ahv c l)∧Below w.heap.size w w':=by
 have hs0:=zDf (c :: l) 0 c rfl
 have hsz:(tx (c :: l)).size=l.length+1:=by rw [zAK];rfl
 by_cases hc:c=92
 ·subst hc
  by_cases h2:l.length<2
  ·have hv:ahv 92 l=.tuple #[.int .u8 92,.int .i64 1]:=by unfold ahv;rw [zIL h2];rfl
   rw [hv]
   clear hv
   obtain ⟨n,hn⟩:∃ n,n=l.length:=⟨_,rfl⟩
   rw [← hn] at hsz h2
   generalize tx (92 :: l)=s at *
   have h92:(92:UInt8).toNat=92:=rfl
   rw [h92] at hs0
   have k0:0<s.size:=by omega
   have HS:=hs0 k0
   clear hn hs0 h92
   go_enter Tryz.func124,Tryz.ntmps124
   go_wp2
   go_ret2
   exact ⟨rfl,Below.refl _ _⟩
  ·obtain ⟨a,b,m,rfl⟩:∃ a b m,l=a :: b :: m:=by
    match l,h2 with
    | a :: b :: m,_ =>exact ⟨a,b,m,rfl⟩
    | [_],h =>simp at h
    | [],h =>simp at h
   have hs1:=zDf (92 :: a :: b :: m) 1 a rfl
   have hs2:=zDf (92 :: a :: b :: m) 2 b rfl
   have hsz2:(tx (92 :: a :: b :: m)).size=m.length+3:=by rw [zAK];rfl
   have hml:m.length≤5000:=by simp at hl;omega
   have hv:ahv 92 (a :: b :: m)=match hval a,hval b with | some h,some k =>.tuple #[.int .u8 (16 * (h:Int)+(k:Int)),.int .i64 3] | _,_ =>.tuple #[.int .u8 92,.int .i64 1]:=by
    unfold ahv ahd
    simp only [if_true]
    cases ha:hval a with
    | none =>rfl
    | some h =>
     cases hb:hval b with
     | none =>rfl
     | some k =>
      have h1:=zCD ha
      have h2:=zCD hb
      have h3:(UInt8.ofNat (16 * h+k)).toNat=16 * h+k:=by simp;omega
      simp only [h3]
      rfl
   rw [hv]
   have HA:=yh (fun W =>zHU a W)
   have HB:=yh (fun W =>zHU b W)
   have h92:((tx (92 :: a :: b :: m))[0]'(by omega)).toNat=92:=hs0 (by omega)
   cases ha:hval a with
   | none =>
    have e1:hixb a = -1:=by unfold hixb;rw [ha]
    exact zFy _ _ _ (hixb a) (hixb b) (by omega) (by omega) (by omega) (by omega) h92 (congrArg Int.ofNat (hs1 (by omega))) (congrArg Int.ofNat (hs2 (by omega))) HA HB (.inl (by omega)) w
   | some h =>
    have e1:hixb a=(h:Int):=by unfold hixb;rw [ha]
    have g1:=zCD ha
    cases hb:hval b with
    | none =>
     have e2:hixb b = -1:=by unfold hixb;rw [hb]
     exact zFy _ _ _ (hixb a) (hixb b) (by omega) (by omega) (by omega) (by omega) h92 (congrArg Int.ofNat (hs1 (by omega))) (congrArg Int.ofNat (hs2 (by omega))) HA HB (.inr ⟨by omega,by omega⟩) w
    | some k =>
     have e2:hixb b=(k:Int):=by unfold hixb;rw [hb]
     have g2:=zCD hb
     have:=zIO _ _ _ (hixb a) (hixb b) (by omega) (by omega) (by omega) (by omega) h92 (congrArg Int.ofNat (hs1 (by omega))) (congrArg Int.ofNat (hs2 (by omega))) HA HB (by omega) (by omega) (by omega) (by omega) w
     rw [e1,e2] at this
     exact this
 ·have hv:ahv c l=.tuple #[.int .u8 (c.toNat:Int),.int .i64 1]:=by unfold ahv;rw [zIK hc];rfl
  rw [hv]
  clear hv
  have hc2:((c.toNat:Int) == 92)=false:=by
   rw [beq_eq_false_iff_ne]
   intro h
   apply hc
   apply UInt8.toNat_inj.1
   show c.toNat=92
   omega
  have hc3:((c.toNat:Int) != 92)=true:=by rw [bne,hc2];rfl
  obtain ⟨n,hn⟩:∃ n,n=l.length:=⟨_,rfl⟩
  rw [← hn] at hsz
  generalize tx (c :: l)=s at *
  have k0:0<s.size:=by omega
  have HS:=hs0 k0
  generalize c.toNat=cn at *
  clear hn hs0 hc
  go_enter Tryz.func124,Tryz.ntmps124
  go_wp2
  go_ret2
  exact ⟨rfl,Below.refl _ _⟩
def slen:Value→Nat
 | .string s =>s.size
 | _ =>0
def ERel (l:List UInt8) (w:World) (v0 v3:Value) (wr:World):Prop :=
 ∃ (acc r:List UInt8) (va:Value),va=v3∧v0=.string (tx r)∧wr.ownsRow w.heap.size 5 1 va acc.length (acc.map bv)∧rest l=acc++rest r∧acc.length+r.length≤l.length∧Below w.heap.size w wr
theorem zIX (l:List UInt8) (hl:l.length≤5000) (w:World) :
  Calls Tryz.prog 104 #[.string (tx l)] w fun e w' =>e=.returned (.string (tx (zBc l)))∧Below w.heap.size w w':=by
 obtain ⟨i0,hi,hz0,hz1,hz2⟩:=info_parts zKW
 by_cases h45:l=[45]
 ·subst h45
  have h1:((tx [45]).toList == [45])=true:=by rw [zAo];decide
  go_enter Tryz.func104,Tryz.ntmps104
  go_wp2
  go_ret
  exact ⟨rfl,Below.refl _ _⟩
 ·have h1:((tx l).toList == [45])=false:=by rw [zAo,decide_eq_false h45]
  have hfin:zBc l=rest l:=by unfold zBc rest;rw [if_neg h45]
  have H0:Hid (ERel l w (.string (tx l)) (.slice none 0 0) w):=⟨[],l,_,rfl,rfl,World.ownsRow_nil _ _ _ _,rfl,by simp,Below.refl _ _⟩
  rw [hfin]
  clear hfin h45
  generalize hs:tx l=s at h1 H0 ⊢
  clear hs
  go_enter Tryz.func104,Tryz.ntmps104
  go_wp2
  clear h1
  go_loopw [0,3] (fun v0 v3 wr =>ERel l w v0 v3 wr) (fun v0 _ _ =>slen v0)
  case atStart =>exact H0.out
  case round =>
   obtain ⟨acc,r,va,rfl,rfl,hown,hrest,hlen,hb⟩:=hrel
   clear H0
   cases r with
   | nil =>
    have h1:(tx []).toList.isEmpty=true:=by rw [zBV];decide
    have h2:(!(tx []).toList.isEmpty)=false:=by rw [h1];rfl
    rw [zJt,List.append_nil] at hrest
    have HRE:=yh hrest
    obtain ⟨A4,c4,rfl,_⟩:=zAL hown
    have hcv:=zBK (P:=Tryz.prog) (src:=59) (dst:=9) (c:=c4) Tryz.underlying59 Tryz.underlying5 Tryz.underlying9 (zAE.of_own hown)
    have HB:=yh hb
    clear hrest hown hb
    generalize hs:tx []=s at *
    clear hs
    go_wp2
    go_ret
    exact ⟨by rw [HRE.out];rfl,HB.out⟩
   | cons c m =>
    have h1:(tx (c :: m)).toList.isEmpty=false:=by rw [zBV];simp
    have h2:(!(tx (c :: m)).toList.isEmpty)=true:=by rw [h1];rfl
    have hsz:(tx (c :: m)).size=m.length+1:=by rw [zAK];rfl
    have hah:=zIN c m (by simp at hlen;omega) wr
    unfold ahv at hah
    rw [zDw] at hrest
    have h13:=zED c m
    obtain ⟨x,hx⟩:∃ x,x=(ahd c m).1:=⟨_,rfl⟩
    obtain ⟨k,hk⟩:∃ k,k=(ahd c m).2:=⟨_,rfl⟩
    rw [← hx,← hk] at hah hrest
    have HD:Hid ((tx (c :: m)).extract k (m.length+1)=tx ((c :: m).drop k)):=by show _=_;rw [zAv,List.take_of_length_le (by simp)]
    rw [← hk] at h13
    have HAH:=yh hah
    have HRE:=yh hrest
    have HOWN:=yh hown
    have HB:=yh hb
    obtain ⟨n,hn⟩:∃ n,n=m.length:=⟨_,rfl⟩
    rw [← hn] at hsz h13 HD
    have HN:=yh hn
    have hlen2:acc.length+(n+1)≤l.length:=by rw [hn];simpa using hlen
    clear hah hrest hown hb hx hk hn hlen
    generalize hs:tx (c :: m)=s at *
    clear hs
    have hk1:1≤k:=by omega
    have hk2:k≤n+1:=by omega
    clear h13
    obtain ⟨na,hna⟩:∃ na,na=acc.length:=⟨_,rfl⟩
    have HNA:=yh hna
    rw [← hna] at HOWN hlen2
    clear hna
    go_wp2_with (first
     | (go_at_call 124;refine HAH.out.mono ?_;rintro e w3 ⟨rfl,hb3⟩;have HO3:=yh (World.ownsRow.alloc (zAb HOWN.out hb3) (.cells #[.int .u8 (x.toNat:Int)] 5));have HB3:=yh ((HB.out.trans (hb3.mono HB.out.size)).alloc (by have h1:=HB.out.size;have h2:=hb3.size;omega) (.cells #[.int .u8 (x.toNat:Int)] 5));have HR3:=yh (zBx w3 5 (.int .u8 (x.toNat:Int)));clear hb3)
     | (at_builtin;refine zBI _ rfl (.tmp 15) (.tmp 17) 59 rfl w.heap.size 5 i0 _ 1 1 Tryz.underlying59 hi hz0 hz1 hz2 rfl (by decide) _ na _ rfl HO3.out (some ⟨w3.heap.size,0,none⟩) 1 1 (w3.heap.size+1) [.int .u8 (x.toNat:Int)] rfl (by simp) HR3.out (fun u hu =>by obtain rfl:=List.mem_singleton.1 hu;rfl) (by unfold maxLen;omega) (by omega) HB3.out.size ?_;intro v6 w6 ho6 hg6 hv6;have HO6:=yh ho6;have HB6:=yh (HB3.out.grown hg6 HB3.out.size (zAS HO3.out));clear ho6 hg6 hv6))
    have hdl:((c :: m).drop k).length=n+1 - k:=by rw [List.length_drop,List.length_cons,← HN.out]
    refine ⟨⟨acc++[x],(c :: m).drop k,v6,rfl,by rw [HD.out],?_,by rw [HRE.out];simp,by rw [List.length_append,hdl,← HNA.out,List.length_singleton];omega,HB6.out⟩,?_⟩
    ·rw [List.map_append,List.length_append,← HNA.out];exact HO6.out
    ·show (s.extract k (n+1)).size<s.size
     rw [HD.out,zAK,hdl,hsz];omega
theorem zJa (l:List UInt8) (hl:l.length≤5000) (w:World) :
  Calls Tryz.prog 85 #[.string (tx l)] w fun e w' =>e=.returned (.tuple #[.string (tx (eget l).1),.bool (eget l).2])∧Below w.heap.size w w':=by
 have hr:=fun W =>zIX l (by omega) W
 have hlr:(zBc l).length≤5000:=by
  have:=zFQ l
  omega
 have hp:=fun W =>zDQ (zBc l) hlr W
 obtain ⟨r,hr0⟩:∃ r,r=zBc l:=⟨_,rfl⟩
 obtain ⟨q,hq0⟩:∃ q,q=eput (zBc l):=⟨_,rfl⟩
 have he:eget l=if q=l then (r,true) else ([],false):=by rw [hq0,hr0];rfl
 rw [← hr0] at hr
 rw [← hq0,← hr0] at hp
 rw [he]
 have H1:=yh hr
 have H2:=yh hp
 clear hr hp he hr0 hq0 hlr
 have hbb:((tx q).toList == (tx l).toList)=decide (q=l):=by rw [zAg (a:=l)];exact zAo q l
 by_cases hql:q=l
 ·rw [if_pos hql]
  rw [decide_eq_true hql] at hbb
  have hb2:((tx q).toList != (tx l).toList)=false:=by rw [bne,hbb];rfl
  generalize tx q=sq at *
  generalize tx r=sr at *
  generalize tx l=sl at *
  clear hql
  go_enter Tryz.func85,Tryz.ntmps85
  go_wp2_with (first
   | (go_at_call 104;refine (H1.out _).mono ?_;rintro e w3 ⟨rfl,hb3⟩)
   | (go_at_call 41;refine (H2.out _).mono ?_;rintro e w4 ⟨rfl,hb4⟩))
  go_ret2
  exact ⟨rfl,hb3.trans (hb4.mono hb3.size)⟩
 ·rw [if_neg hql]
  rw [decide_eq_false hql] at hbb
  have hb2:((tx q).toList != (tx l).toList)=true:=by rw [bne,hbb];rfl
  generalize tx q=sq at *
  generalize tx r=sr at *
  generalize tx l=sl at *
  clear hql
  go_enter Tryz.func85,Tryz.ntmps85
  go_wp2_with (first
   | (go_at_call 104;refine (H1.out _).mono ?_;rintro e w3 ⟨rfl,hb3⟩)
   | (go_at_call 41;refine (H2.out _).mono ?_;rintro e w4 ⟨rfl,hb4⟩))
  go_ret2
  exact ⟨rfl,hb3.trans (hb4.mono hb3.size)⟩
def hix (c:UInt8):Int:=match hval c with | some d =>(d:Int) | none =>-1
theorem zKl (c:UInt8) (w:World) :
  Calls Tryz.prog 100 #[.string { data:=#[48,49,50,51,52,53,54,55,56,57,97,98,99,100,101,102] },.int .u8 (c.toNat:Int)] w fun e w' =>e=.returned (.int .i64 (hix c))∧w=w':=by
 have hf:firstIdx { data:=#[48,49,50,51,52,53,54,55,56,57,97,98,99,100,101,102] } c=hix c:=by
  have:=zFS ⟨c.toNat,c.toNat_lt⟩
  have e:UInt8.ofNat c.toNat=c:=by simp
  simp only [e] at this
  exact this
 have he:=fun W =>(run_callFunc_extern (P:=Tryz.prog) (f:=134) (e:=Extern.BytealgIndexByte.indexByte) Tryz.func134 (by kernel_rfl) (by kernel_rfl) (by kernel_rfl) (by kernel_rfl)
  #[.string { data:=#[48,49,50,51,52,53,54,55,56,57,97,98,99,100,101,102] },.int .u8 (c.toNat:Int)] W).trans (by rw [run_indexByte_string])
 have hc:((c.toNat:Int)).toNat.toUInt8=c:=by simp
 rw [hc,hf] at he
 clear hc hf
 generalize hix c=r at *
 generalize (c.toNat:Int)=v at *
 go_enter Tryz.func100,Tryz.ntmps100
 go_wp2
 go_ret
 exact ⟨rfl,rfl⟩
def rav (n:Nat) (ok:Bool):Value:=.tuple #[.int .u64 (n:Int),.bool ok]
theorem zFC {bs:List UInt8} {s:ByteArray} (hs:s=tx bs) (k:Nat) (h:k<s.size):∃ x:UInt8,x.toNat=s[k].toNat∧bs.drop k=x :: bs.drop (k+1):=by
 subst hs
 have hk:k<bs.length:=by rw [zAK] at h;exact h
 exact ⟨bs[k],rfl,List.drop_eq_getElem_cons hk⟩
def DRel (bs:List UInt8) (w:World) (v idx:Value) (wr:World):Prop:=∃ i acc:Nat,i≤16∧v=.int .u64 (acc:Int)∧acc<16 ^ i∧idx=.int .i64 (i:Int)∧Hid (rd 0 bs=rd acc (bs.drop i))∧w=wr
theorem zGc {i acc:Nat} (hi:i<16) (h:acc<16 ^ i):16 * acc+16≤18446744073709551616:=by
 have h1:16 ^ i≤16 ^ 15:=Nat.pow_le_pow_right (by omega) (by omega)
 have h2:(16:Nat) ^ 15=1152921504606846976:=by decide
 omega
theorem zEZ {i acc d:Nat} (h:acc<16 ^ i) (hd:d<16):16 * acc+d<16 ^ (i+1):=by
 rw [Nat.pow_succ]
 omega
theorem zGf (bs:List UInt8) (hn:bs.length≤1073741824) (w:World) :
  Calls Tryz.prog 79 #[.string (tx bs)] w fun e w' =>e=.returned (rav (rans bs).1 (rans bs).2)∧w=w':=by
 obtain ⟨s,hs⟩:∃ s,s=tx bs:=⟨_,rfl⟩
 have hsz:s.size=bs.length:=by rw [hs,zAK]
 rw [← hs]
 by_cases h16:bs.length=16
 ·have hsz16:s.size=16:=by omega
  have HR:Hid (rans bs=rof (rd 0 bs)):=by rw [rans,if_pos h16];rfl
  have HS:=yh hs
  have H0:DRel bs w (.int .u64 0) (.int .i64 0) w:=⟨0,0,by omega,rfl,by decide,rfl,rfl,rfl⟩
  have HL:=yh h16
  clear hs hsz hn h16
  go_enter Tryz.func79,Tryz.ntmps79
  go_wp2
  go_loopw [4,12] (fun v idx wr =>DRel bs w v idx wr) (fun v idx wr =>16 - (intOf idx).toNat)
  case atStart =>exact H0
  case round =>
   obtain ⟨i,acc,hi,rfl,hacc,rfl,hrd,rfl⟩:=hrel
   clear H0
   by_cases hlt:i<16
   ·obtain ⟨x,hx,hd⟩:=zFC HS.out i (by omega)
    have hroom:=zGc hlt hacc
    have hidx:=zKl x w
    rw [hd] at hrd
    cases hv:hval x with
    | none =>
     have hz:rans bs=(0,false):=by rw [HR.out,hrd.out,zCj hv,rof]
     have hh:hix x = -1:=by rw [hix,hv]
     have HZ:=yh hz
     rw [hh,hx] at hidx
     have HI:=yh hidx
     clear hz hh hd hrd hacc hroom hidx hv
     obtain ⟨v,hv⟩:∃ v,s[i].toNat=v:=⟨_,rfl⟩
     rw [hv] at HI
     go_wp2_with fail
     refine HI.out.mono ?_
     rintro e w1 ⟨rfl,rfl⟩
     go_wp2
     go_ret2
     exact ⟨by rw [HZ.out];rfl,rfl⟩
    | some d =>
     have hd16:=zCD hv
     have hh:hix x=(d:Int):=by rw [hix,hv]
     have hnx:=hrd
     rw [zCX hv] at hnx
     have hpn:=zEZ hacc hd16
     rw [hh,hx] at hidx
     have HI:=yh hidx
     have HP:=yh hpn
     have k1:=zLU acc d hd16 hroom
     obtain ⟨z,hz⟩:∃ z,z=16 * acc+d:=⟨_,rfl⟩
     rw [← hz] at k1 hnx HP
     clear hh hd hrd hidx hpn hacc hz
     obtain ⟨v,hv⟩:∃ v,s[i].toNat=v:=⟨_,rfl⟩
     rw [hv] at HI
     go_wp2_with fail
     refine HI.out.mono ?_
     rintro e w1 ⟨rfl,rfl⟩
     go_wp2
     exact ⟨⟨i+1,z,by omega,rfl,HP.out,by go_num,hnx,rfl⟩,by simp [intOf];omega⟩
   ·obtain rfl:i=16:=by omega
    have hz:rans bs=(acc,true):=by rw [HR.out,hrd.out,List.drop_eq_nil_of_le (by rw [HL.out];omega),rd,rof]
    have HZ:=yh hz
    clear hz hrd
    go_wp2
    go_ret2
    exact ⟨by rw [HZ.out];rfl,rfl⟩
 ·have hsz16:¬ s.size=16:=by omega
  have hz:rans bs=(0,false):=by rw [rans,if_neg h16]
  have HZ:=yh hz
  have hs2:s.size≤1073741824:=by omega
  clear hs hsz hn hz h16
  go_enter Tryz.func79,Tryz.ntmps79
  go_wp2
  go_ret2
  exact ⟨by rw [HZ.out];rfl,rfl⟩
theorem zAG {w:World} {k:Nat} {o:Obj} (h:w.heap[k]? = some o):k<w.heap.size:=(Array.getElem?_eq_some_iff.1 h).1
def zCQ:Ending:=.panicked [{ v:=.iface 75 (.agg #[.int .i64 3]),recovered:=false }]
def zAx (w:World):Prop:=(∃ te pe,w.cell? ⟨3,0,none⟩=some (.iface te pe))∧∃ te pe,w.cell? ⟨4,0,none⟩=some (.iface te pe)
theorem zAx.below {w w':World} (h:zAx w) (hb:Below w.heap.size w w'):zAx w':=by
 have key:∀ (g:Nat) (v:Value),w.cell? ⟨g,0,none⟩=some v→w'.cell? ⟨g,0,none⟩=some v:=fun g v hc =>by
  have h1:=hb.block g (Lib.lt_of_cell hc)
  unfold World.cell? at hc ⊢
  rw [h1]
  exact hc
 obtain ⟨⟨a,b,h1⟩,c,d,h2⟩:=h
 exact ⟨⟨a,b,key _ _ h1⟩,c,d,key _ _ h2⟩
theorem zCc (w:World):Calls Tryz.prog 57 #[.bool true] w fun e w' =>e=.returned (.tuple #[])∧w'=w:=by
 go_enter Tryz.func57,Tryz.ntmps57
 go_wp2
 go_end0
 exact ⟨rfl,rfl⟩
theorem zCJ (w:World):Calls Tryz.prog 57 #[.bool false] w fun e w' =>e=zCQ∧w'=w:=by
 unfold zCQ
 go_enter Tryz.func57,Tryz.ntmps57
 go_wp2
 exact ⟨rfl,rfl,rfl⟩
theorem zBR (l:List UInt8) (hl:l.length≤5000) (w:World) :
  Calls Tryz.prog 58 #[.string (tx l)] w fun e w' =>(((eget l).2=true∧e=.returned (.string (tx (eget l).1)))∨((eget l).2=false∧e=zCQ))∧Below w.heap.size w w':=by
 have HG:=yh (zJa l hl w)
 obtain ⟨p,hp⟩:∃ p,p=eget l:=⟨_,rfl⟩
 rw [← hp] at HG ⊢
 clear hp
 obtain ⟨s,b⟩:=p
 cases b with
 | true =>
  go_enter Tryz.func58,Tryz.ntmps58
  go_wp2_with fail
  refine HG.out.mono ?_
  rintro e w2 ⟨rfl,hb⟩
  go_wp2_with fail
  refine (zCc w2).mono ?_
  rintro e w3 ⟨rfl,rfl⟩
  go_wp2
  go_ret
  exact ⟨.inl ⟨by first | trivial | rfl,rfl⟩,hb⟩
 | false =>
  go_enter Tryz.func58,Tryz.ntmps58
  go_wp2_with fail
  refine HG.out.mono ?_
  rintro e w2 ⟨rfl,hb⟩
  go_wp2_with fail
  refine (zCJ w2).mono ?_
  rintro e w3 ⟨rfl,rfl⟩
  exact ⟨rfl,.inr ⟨by first | trivial | rfl,rfl⟩,hb⟩
theorem zBW (l:List UInt8) (hl:l.length≤5000) (w:World) :
  Calls Tryz.prog 59 #[.string (tx l)] w fun e w' =>(((rans l).2=true∧e=.returned (.int .u64 ((rans l).1:Int)))∨((rans l).2=false∧e=zCQ))∧Below w.heap.size w w':=by
 have HG:=yh (zGf l (by omega) w)
 obtain ⟨p,hp⟩:∃ p,p=rans l:=⟨_,rfl⟩
 rw [← hp] at HG ⊢
 clear hp
 obtain ⟨s,b⟩:=p
 unfold rav at HG
 cases b with
 | true =>
  go_enter Tryz.func59,Tryz.ntmps59
  go_wp2_with fail
  refine HG.out.mono ?_
  rintro e w2 ⟨rfl,rfl⟩
  go_wp2_with fail
  refine (zCc w).mono ?_
  rintro e w3 ⟨rfl,rfl⟩
  go_wp2
  go_ret
  exact ⟨.inl ⟨by first | trivial | rfl,rfl⟩,Below.refl _ _⟩
 | false =>
  go_enter Tryz.func59,Tryz.ntmps59
  go_wp2_with fail
  refine HG.out.mono ?_
  rintro e w2 ⟨rfl,rfl⟩
  go_wp2_with fail
  refine (zCJ w).mono ?_
  rintro e w3 ⟨rfl,rfl⟩
  exact ⟨rfl,.inr ⟨by first | trivial | rfl,rfl⟩,Below.refl _ _⟩
theorem zIv (l:List UInt8) (hl:l.length≤5000) (w:World) (he:zAx w) :
  Calls Tryz.prog 86 #[.string (tx l),.int .i64 10,.int .i64 64] w fun e w' =>((∃ u:Nat,nmO l=some u∧e=.returned (.tuple #[.int .u64 (u:Int),.nilIface]))∨(nmO l=none∧∃ z te pe,e=.returned (.tuple #[z,.iface te pe])))∧Below w.heap.size w w':=by
 obtain ⟨⟨a,b,h1⟩,c,d,h2⟩:=he
 have hs:(tx l).size≤5000:=by rw [zAK];exact hl
 have hd:(tx l).data.toList=l:=by simp [tx]
 unfold nmO
 cases h:Lib.parseUintB 64 l
 case ok u =>
  refine (Tryz.strconv_ParseUint_10_at64_ok (tx l) (by omega) u (by rw [hd];exact h) w).mono ?_
  rintro e w' ⟨rfl,hw⟩
  refine ⟨.inl ⟨u,rfl,rfl⟩,?_⟩
  rcases hw with rfl | rfl
  ·exact Below.refl _ _
  ·exact Lib.bytesWorld_below _ _ _
 case range =>
  refine (Tryz.strconv_ParseUint_10_at64_range (tx l) (by omega) (by rw [hd];exact h) _ w h2 (.inr ⟨_,_,rfl⟩)).mono ?_
  rintro e w' ⟨N,rfl,_,_,hb⟩
  exact ⟨.inr ⟨rfl,_,_,_,rfl⟩,hb⟩
 refine (Tryz.strconv_ParseUint_10_at64_syntax (tx l) (by omega) (by rw [hd];exact h) _ w h1 (.inr ⟨_,_,rfl⟩)).mono ?_
 rintro e w' ⟨N,rfl,_,_,hb⟩
 exact ⟨.inr ⟨rfl,_,_,_,rfl⟩,hb⟩
theorem zBt (l:List UInt8) (hl:l.length≤5000) (w:World) (he:zAx w) :
  Calls Tryz.prog 60 #[.string (tx l)] w fun e w' =>((∃ u:Nat,nmO l=some u∧e=.returned (.int .u64 (u:Int)))∨(nmO l=none∧e=zCQ))∧Below w.heap.size w w':=by
 have HP:=yh (zIv l hl w he)
 have hn1:∀ w:World,(binOp .eql 63 .nilIface .nilIface).run Tryz.prog w=.ok (.bool true) w:=fun _ =>rfl
 have hn2:∀ (te:TypeId) (pe:Value) (w:World),(binOp .eql 63 (.iface te pe) .nilIface).run Tryz.prog w=.ok (.bool false) w:=fun _ _ _ =>rfl
 clear he
 go_enter Tryz.func60,Tryz.ntmps60
 go_wp2_with fail
 refine HP.out.mono ?_
 rintro e w2 ⟨⟨u,hu,rfl⟩ | ⟨hu,z,te,pe,rfl⟩,hb⟩
 ·have HU:=yh hu
  clear hu
  go_wp2_with fail
  refine (zCc w2).mono ?_
  rintro e w3 ⟨rfl,rfl⟩
  go_wp2
  go_ret
  exact ⟨.inl ⟨u,HU.out,rfl⟩,hb⟩
 ·have HU:=yh hu
  clear hu
  go_wp2_with fail
  refine (zCJ w2).mono ?_
  rintro e w3 ⟨rfl,rfl⟩
  exact ⟨rfl,.inr ⟨HU.out,rfl⟩,hb⟩
theorem zGP (a b:List UInt8) (ha:a.length≤5000) (hb:b.length≤5000) (w:World) :
  Calls Tryz.prog 61 #[.string (tx a),.string (tx b)] w fun e w' =>((∃ d,dpO a b=some d∧e=.returned (.agg #[.string (tx d.name),.int .u64 d.hash,.bool d.order]))∨(dpO a b=none∧e=zCQ))∧Below w.heap.size w w':=by
 obtain ⟨q,hq⟩:∃ q,q=cutO b:=⟨_,rfl⟩
 have hq1:q.1=Lib.trimSuffix b [33]:=by rw [hq];rfl
 have hq2:q.2=Lib.hasSuffix b [33]:=by rw [hq];rfl
 have hql:q.1.length≤5000:=by
  rw [hq1]
  unfold Lib.trimSuffix
  split
  ·rw [List.length_take];omega
  ·exact hb
 have hz:=zAI w (.cells #[.string ⟨#[]⟩,.int .u64 0,.bool false] 73)
 have hb1:=(Below.refl w.heap.size w).alloc (Nat.le_refl _) (.cells #[.string ⟨#[]⟩,.int .u64 0,.bool false] 73)
 obtain ⟨w1,hw1⟩:∃ x,x=w.alloc (.cells #[.string ⟨#[]⟩,.int .u64 0,.bool false] 73):=⟨_,rfl⟩
 rw [← hw1] at hz hb1
 have HCUT:Hid (Calls Tryz.prog 45 #[.string (tx b),.string { data:=#[33] }] w1 fun e w' =>e=.returned (.tuple #[.string (tx q.1),.bool q.2])∧w'=w1):=by
  refine (Tryz.strings_CutSuffix (tx b) { data:=#[33] } w1 (by rw [zAK];omega)).mono ?_
  rintro e w' ⟨rfl,rfl⟩
  rw [hq1,hq2]
  have hd:(tx b).data.toList=b:=by simp [tx]
  rw [hd]
  exact ⟨rfl,rfl⟩
 have HT:=yh (fun W =>zBR a ha W)
 have HH:=yh (fun W =>zBW q.1 hql W)
 have hdp:dpO a b=if (eget a).2=true∧(rans q.1).2=true then some ⟨(eget a).1,((rans q.1).1:Int),q.2⟩ else none:=by rw [hq];rfl
 have HDP:=yh hdp
 obtain ⟨q1,q2⟩:=q
 simp only at HCUT HH HDP
 have HW1:=yh hw1
 have HZ:=yh hz
 have HB1:=yh hb1
 clear hq hq1 hq2 hql hdp hw1 hz hb1
 go_enter Tryz.func61,Tryz.ntmps61
 go_wp2_with fail
 rw [← HW1.out]
 refine HCUT.out.mono ?_
 rintro e w2 ⟨rfl,rfl⟩
 go_wp2_with fail
 refine (HT.out w2).mono ?_
 rintro e w3 ⟨⟨h1,rfl⟩ | ⟨h1,rfl⟩,hb3⟩
 ·have H1:=yh h1
  clear h1
  go_wp2_with fail
  refine (HH.out w3).mono ?_
  rintro e w4 ⟨⟨h2,rfl⟩ | ⟨h2,rfl⟩,hb4⟩
  ·have H2:=yh h2
   have hz4:=(hb4.block w.heap.size (zAG ((hb3.block w.heap.size (zAG HZ.out)).trans HZ.out))).trans ((hb3.block w.heap.size (zAG HZ.out)).trans HZ.out)
   have HB4:=yh (HB1.out.trans ((hb3.trans (hb4.mono hb3.size)).mono HB1.out.size))
   have r0:=zAA (i:=0) hz4 rfl;have r1:=zAA (i:=1) hz4 rfl;have r2:=zAA (i:=2) hz4 rfl
   have y0:=zAC (i:=0) hz4;have y1:=zAC (i:=1) hz4;have y2:=zAC (i:=2) hz4
   have hx5:=zAD (zAD (zAD hz4 0 (.string (tx (eget a).1))) 1 (.int .u64 ((rans q1).1:Int))) 2 (.bool q2)
   have HX5:=yh hx5
   clear h2 hb3 hb4 hz4 hx5
   go_wp2
   refine bodyPost_ret (results_cell_row rfl _ _ _ _ _ _ _ rfl HX5.out Tryz.underlying73 rfl (by kernel_rfl)) rfl ?_
   refine ⟨.inl ⟨⟨(eget a).1,((rans q1).1:Int),q2⟩,HDP.out.trans (if_pos ⟨H1.out,H2.out⟩),rfl⟩,?_⟩
   exact ((HB4.out.setCell (Nat.le_refl _) _).setCell (Nat.le_refl _) _).setCell (Nat.le_refl _) _
  ·have H2:=yh h2
   clear h2
   exact ⟨rfl,.inr ⟨HDP.out.trans (if_neg (fun h =>by rw [H2.out] at h;exact absurd h.2 (by decide))),rfl⟩,HB1.out.trans ((hb3.trans (hb4.mono hb3.size)).mono HB1.out.size)⟩
 ·have H1:=yh h1
  clear h1
  exact ⟨rfl,.inr ⟨HDP.out.trans (if_neg (fun h =>by rw [H1.out] at h;exact absurd h.1 (by decide))),rfl⟩,HB1.out.trans (hb3.mono HB1.out.size)⟩
end Go.Proofs.YtgoklhoaedceaaaGreatDoor
