/- Texts of one proof. -/
import Derived.Test.YtgoklhoaedceaaaGreatDoorMx24
set_option maxRecDepth 100000
set_option maxHeartbeats 8000000
namespace Go.Proofs.YtgoklhoaedceaaaGreatDoor
open Go.RowKit
def TrI (w wr:World) (va:Value) (zs:List Rw):Prop :=
 wr.ownsRow w.heap.size 37 7 va zs.length (rws zs)∧(∀ z ∈ zs,Deps wr w.heap.size z.A z.n z.c z.l)∧Below w.heap.size w wr
theorem TrI.below {w wr w':World} {va:Value} {zs:List Rw} (h:TrI w wr va zs) (hb:Below wr.heap.size wr w'):TrI w w' va zs :=
 ⟨zAb h.1 hb,fun z hz =>zHj (h.2.1 z hz) hb,h.2.2.trans (hb.mono h.2.2.size)⟩
theorem TrI.more {w wr w6:World} {va v1:Value} {zs:List Rw} (h:TrI w wr va zs) (y:Rw) (hy:Deps wr w.heap.size y.A y.n y.c y.l) (ho:w6.ownsRow w.heap.size 37 7 v1 (zs.length+1) (rws zs++rws [y]))
  (hg:(wr.alloc (.cells #[.int .i64 y.r.kind,.string (tx y.r.target),.int .u64 y.r.rule,.slice y.A y.n y.c,.int .u64 y.r.out,.int .u64 y.r.time,.string (tx y.r.tag)] 37)).grownBy w6 va.ownBlock):TrI w w6 v1 (zs++[y]):=by
 have ho1:=zAS h.1
 have hk:∀ {A:Option Addr} {n c:Nat} {l:List Dp},Deps wr w.heap.size A n c l→Deps w6 w.heap.size A n c l:=fun hd =>zIR (zDP hd _) (World.ownsRow.alloc h.1 _) hg
 refine ⟨?_,fun z hz =>?_,?_⟩
 ·rw [← zHc] at ho
  simpa using ho
 ·rcases List.mem_append.1 hz with hz | hz
  ·exact hk (h.2.1 z hz)
  ·obtain rfl:z=y:=by simpa using hz
   exact hk hy
 ·exact (h.2.2.alloc h.2.2.size _).grown hg (by have:=h.2.2.size;simp;omega) (fun j hj =>by have:=ho1 j hj;omega)
theorem TrI.recs {w wr:World} {A:Option Addr} {n c:Nat} {zs:List Rw} (h:TrI w wr (.slice A n c) zs):Recs wr wr.heap.size A n zs:=by
 obtain ⟨A',c',he,hA⟩:=zAL h.1
 cases he
 exact ⟨zAE.of_own h.1,fun z hz =>⟨zAE.of_own (h.2.1 z hz).1,(h.2.1 z hz).2⟩⟩
def zLJ (ls:List (List UInt8)) (w:World) (e:Ending) (w':World):Prop :=
 (∃ va zs,Trs ls zs∧e=.returned (.tuple #[va,.int .i64 0])∧TrI w w' va zs)∨((∀ zs,¬ Trs ls zs)∧e=.returned (.tuple #[.slice none 0 0,.int .i64 3])∧Below w.heap.size w w')
theorem Trs.split {ls:List (List UInt8)} {s:List UInt8} {todo:List (List UInt8)} {zs:List Rw} (h:Trs (ls++s :: todo) zs):∃ r l,zAy s r l:=by
 obtain ⟨x,_,hx⟩:=h.at (i:=ls.length) (s:=s) (by simp)
 exact ⟨_,_,hx⟩
def zGk:Value→Nat
 | .string s =>s.size
 | _ =>0
theorem zHA (T:List UInt8) (hT:T.length≤1000000) (hd:List UInt8) (fnd:Bool) (ls:List (List UInt8)) (hcut:Lib.cut T [10]=(hd,flat ls,fnd)) (hn:∀ s ∈ ls,(10:UInt8) ∉ s) (hlen:(flat ls).length≤1000000) (hls:∀ s ∈ ls,s.length≤5000) (hlf:ls.length≤5000)
  (w:World) (hp:zAl w) (he:zAx w) (hsh:w.ShapedOpen Tryz.prog) :
  Calls Tryz.prog 21 #[.string (tx T)] w (zLJ ls w):=by
 have HC:Hid (Calls Tryz.prog 48 #[.string (tx T),.string { data:=#[10] }] w fun e w' =>e=.returned (.tuple #[.string (tx hd),.string (tx (flat ls)),.bool fnd])∧Below w.heap.size w w'):=by
  refine (Tryz.strings_Cut_shaped (tx T) { data:=#[10] } w hsh (by rw [zAK];omega)).mono ?_
  rintro e w' ⟨rfl,n,rfl⟩
  rw [zCe,hcut]
  exact ⟨rfl,zBs _ w _⟩
 have HCL:Hid (∀ (s r:List UInt8) (W:World),(10:UInt8) ∉ s→(s++10 :: r).length≤1000000→Below w.heap.size w W→Calls Tryz.prog 48 #[.string (tx (s++10 :: r)),.string { data:=#[10] }] W fun e w' =>e=.returned (.tuple #[.string (tx s),.string (tx r),.bool true])∧Below W.heap.size W w'):=fun s r W h1 h2 hb =>by
  refine (Tryz.strings_Cut_shaped (tx (s++10 :: r)) { data:=#[10] } W (zAW hsh hb) (by rw [zAK];omega)).mono ?_
  rintro e w' ⟨rfl,n,rfl⟩
  rw [zCe,zDN s r h1]
  exact ⟨rfl,zBs _ W _⟩
 have HLA:=yh (fun (s:List UInt8) (hs:s.length≤5000) (W:World) (hW:Below w.heap.size w W) =>zFe s hs W (hp.below hW) (he.below hW) (zAW hsh hW))
 have HNO:=yh hn
 have HLEN:=yh hlen
 have HLSL:=yh hls
 have HLF:=yh hlf
 clear hp he hcut hn hlen hT hsh hls hlf
 obtain ⟨i0,ii0,iz0,iz1,iz2⟩:=info_parts zGG
 go_enter Tryz.func21,Tryz.ntmps21
 go_wp2_with fail
 refine HC.out.mono ?_
 rintro e w1 ⟨rfl,hb1⟩
 have hI1:TrI w w1 (.slice none 0 0) []:=⟨World.ownsRow_nil _ _ _ _,by simp,hb1⟩
 have HI1:=yh hI1
 clear hb1 hI1
 go_wp2
 go_loopw [4,6] (fun v4 v6 wr =>∃ done todo zs,ls=done++todo∧v6=.string (tx (flat todo))∧Trs done zs∧TrI w wr v4 zs) (fun _ v6 _ =>zGk v6)
 case atStart =>exact ⟨[],ls,[],rfl,rfl,.none,HI1.out⟩
 case round =>
  obtain ⟨done,todo,zs,hls,rfl,htr,hti⟩:=hrel
  cases todo with
  | nil =>
   rw [show tx (flat [])=(⟨#[]⟩:ByteArray) from rfl]
   go_wp2
   go_ret2
   exact .inl ⟨_,zs,by rw [hls,List.append_nil];exact htr,rfl,hti⟩
  | cons s todo =>
   have hs10:=HNO.out s (by rw [hls];simp)
   have hfl:(flat (s :: todo)).length≤1000000:=by
    have h1:=HLEN.out
    rw [hls] at h1
    unfold flat at h1 ⊢
    rw [List.flatMap_append,List.length_append] at h1
    omega
   rw [zAZ] at hfl ⊢
   have hsl:s.length≤5000:=HLSL.out s (by rw [hls];simp)
   have HCW:=yh (HCL.out s (flat todo) wr hs10 hfl hti.2.2)
   have HLW:=yh (fun (W:World) (hb:Below w.heap.size w W) =>HLA.out s hsl W hb)
   have hne:(tx (s++10 :: flat todo)).toList.isEmpty=false:=by
    rw [zAg]
    cases s <;> rfl
   have HSL:Hid (zGk (.string (tx (flat todo)))<zGk (.string (tx (s++10 :: flat todo)))):=by
    show (tx (flat todo)).size<(tx (s++10 :: flat todo)).size
    rw [zAK,zAK,List.length_append,List.length_cons]
    omega
   have HLS:=yh hls
   have HTR:=yh htr
   have HTI:=yh hti
   have HZL:Hid (zs.length≤5000):=by
    have h1:=htr.len
    have h2:=HLF.out
    rw [hls,List.length_append] at h2
    show _≤_
    omega
   obtain ⟨Ao,co,rfl,_⟩:=zAL hti.1
   clear hls htr hti hs10 hfl hsl
   generalize tx (s++10 :: flat todo)=big at *
   go_wp2_with fail
   refine HCW.out.mono ?_
   rintro e w2 ⟨rfl,hb2⟩
   have HT2:=yh (HTI.out.below hb2)
   clear hb2 HTI
   go_wp2_with fail
   refine (HLW.out _ HT2.out.2.2).mono ?_
   rintro e w3 ⟨hans,hb3⟩
   have HT3:=yh (HT2.out.below hb3)
   rcases hans with ⟨r,l,A,n,c,hlo,rfl,how⟩ | ⟨hnl,rfl⟩
   ·have HLO:=yh hlo
    have hdep:Deps w3 w.heap.size A n c l:=⟨zCA how HT2.out.2.2.size,by
     obtain ⟨A',c',hx,hA⟩:=zAL how
     cases hx
     exact hA⟩
    have HDEP:=yh hdep
    clear hb3 how hdep hlo HT2
    have HX3:=yh (HT3.out.below ((Below.refl _ w3).alloc (Nat.le_refl _) (.cells #[.int .i64 r.kind,.string (tx r.target),.int .u64 r.rule,.slice A n c,.int .u64 r.out,.int .u64 r.time,.string (tx r.tag)] 37)))
    have HD3:=yh (zDP HDEP.out (.cells #[.int .i64 r.kind,.string (tx r.target),.int .u64 r.rule,.slice A n c,.int .u64 r.out,.int .u64 r.time,.string (tx r.tag)] 37))
    have hr3:=zBD (w3.alloc (.cells #[.int .i64 r.kind,.string (tx r.target),.int .u64 r.rule,.slice A n c,.int .u64 r.out,.int .u64 r.time,.string (tx r.tag)] 37)) ⟨r,A,n,c,l⟩
    rw [show (w3.alloc (.cells #[.int .i64 r.kind,.string (tx r.target),.int .u64 r.rule,.slice A n c,.int .u64 r.out,.int .u64 r.time,.string (tx r.tag)] 37)).heap.size=w3.heap.size+1 from by simp] at hr3
    have HR3:=yh hr3
    have HBW:Hid (w.heap.size≤w3.heap.size):=HT3.out.2.2.size
    clear hr3
    go_wp2_with (at_builtin;refine zAQ _ rfl (.tmp 33) (.tmp 35) 23 rfl w.heap.size 37 i0 _ 7 88 Tryz.underlying23 ii0 iz0 iz1 iz2 rfl (by decide) _ zs.length (rws zs) rfl (HX3.out.1.alloc _) (some ⟨w3.heap.size+1,0,none⟩) 1 1 (w3.heap.size+1+1) (rws [⟨r,A,n,c,l⟩]) rfl (by simp) HR3.out (zBQ _) (by have:=HZL.out;unfold maxLen;omega) (by have:=HZL.out;omega) (by have:=HBW.out;simp;omega) ?_;intro v1 w6 ho hg;obtain ⟨v1A,v1c,rfl,_⟩:=zAL ho;have HFIN:=yh (HX3.out.more ⟨r,A,n,c,l⟩ HD3.out ho hg);clear ho hg)
    exact ⟨⟨done++[s],todo,zs++[⟨r,A,n,c,l⟩],by rw [HLS.out];simp,rfl,HTR.out.snoc HLO.out,HFIN.out⟩,HSL.out⟩
   ·have HNL:=yh hnl
    clear hb3 hnl HT2
    go_wp2
    go_ret2
    refine .inr ⟨fun zs2 h =>?_,rfl,HT3.out.2.2.alloc HT3.out.2.2.size _⟩
    rw [HLS.out] at h
    obtain ⟨r,l,hx⟩:=h.split
    exact HNL.out r l hx
def zAV (T:List UInt8) (xs:List Rw):Prop:=(∀ x ∈ xs,zBA x)∧OkT xs∧T=zAP (txt xs)
def zHJ (T:List UInt8) (w:World) (e:Ending) (w':World):Prop :=
 (∃ A n c zs,zAV T zs∧e=.returned (.tuple #[.slice A n c,.int .i64 0])∧TrI w w' (.slice A n c) zs)∨((∀ zs,¬ zAV T zs)∧e=.returned (.tuple #[.slice none 0 0,.int .i64 (if (unsO T).2=4 then 4 else 3)])∧Below w.heap.size w w')
theorem zJj (n:Nat):∃ h:List UInt8,hdT n=h++[10]∧(10:UInt8) ∉ h:=by
 refine ⟨[116,101,112,104,114,97,32]++Lib.decDigits n,rfl,fun hm =>?_⟩
 rcases List.mem_append.1 hm with hm | hm
 ·revert hm;decide
 ·exact zFA n 10 hm rfl
theorem zEe {xs:List Rw} (h:∀ x ∈ xs,zBA x∧lnOk x):∃ hd:List UInt8,(10:UInt8) ∉ hd∧txt xs=flat (hd :: xs.map lnT):=by
 obtain ⟨hd,e,hn⟩:=zJj xs.length
 refine ⟨hd,hn,?_⟩
 unfold txt
 rw [e,(zEA xs h).lns.1,zAZ,List.append_assoc]
 rfl
theorem zFT (s:List UInt8) (ls:List (List UInt8)):(flat (s :: ls)).getLast? = some 10:=by
 induction ls generalizing s with
 | nil =>rw [zAZ,zCg];simp
 | cons t ls ih =>
  rw [zAZ,List.getLast?_append,List.getLast?_cons,ih t]
  rfl
theorem zAV.uns {T:List UInt8} {xs:List Rw} (h:zAV T xs):unsO T=(txt xs,0):=by
 obtain ⟨hd,_,e⟩:=zEe (xs:=xs) (fun x hx =>⟨h.1 x hx,h.2.1.2 x hx⟩)
 rw [h.2.2]
 exact zCY _ (.inr (by rw [e];exact zFT _ _))
theorem zGO (s:List UInt8) (c:UInt8):Lib.lastIndex s [c] = -1 ∨ ∃ i:Nat,Lib.lastIndex s [c]=(i:Int)∧s[i]? = some c:=by
 unfold Lib.lastIndex
 split
 ·rcases Lib.lastOcc_spec s [c] (s.length - [c].length+1) with ⟨e,_⟩ | ⟨i,hi,e,ho,_⟩
  ·exact .inl e
  ·rw [zEF] at ho
   exact .inr ⟨i,e,by simpa using ho⟩
 ·exact .inl rfl
theorem zDg {T:List UInt8} (h:(unsO T).2=0):zAP (unsO T).1=T∧((unsO T).1=[]∨(unsO T).1.getLast? = some 10):=by
 unfold unsO at h ⊢
 split at h
 ·rename_i h1
  rw [if_pos h1]
  split at h
  ·rename_i h2
   rw [if_pos h2]
   refine ⟨h2,?_⟩
   show T.take (kOf T)=[]∨(T.take (kOf T)).getLast? = some 10
   have hs:Lib.hasSuffix T [10]=true:=by
    revert h1
    cases Lib.hasSuffix T [10] <;> simp
   have hts:Lib.trimSuffix T [10]=T.take (T.length - 1):=by
    unfold Lib.trimSuffix
    rw [if_pos hs]
    rfl
   rcases zGO (Lib.trimSuffix T [10]) 10 with e | ⟨i,e,hi⟩
   ·refine .inl ?_
    unfold kOf
    rw [e]
    rfl
   ·refine .inr ?_
    have hk:kOf T=i+1:=by unfold kOf;rw [e];omega
    rw [hts,List.getElem?_take] at hi
    split at hi
    ·rw [hk,List.getLast?_take,if_neg (by omega),Nat.add_sub_cancel,hi]
     rfl
    ·cases hi
  ·cases h
 ·cases h
theorem zFZ:∀ ws:List (List UInt8),(ws.map fun x =>x.length+1).sum≤(zAU ws).length+1
 | [] =>by simp
 | [a] =>by rw [zBL];simp
 | a :: b :: ws =>by
  rw [zAm a (b :: ws) (by simp),List.length_append,List.length_cons,List.map_cons,List.sum_cons]
  have:=zFZ (b :: ws)
  omega
theorem zFc {s:List UInt8} {r:Rc} {l:List Dp} (h:zAy s r l):39≤s.length:=by
 obtain ⟨_,_,_,_,rfl⟩:=h
 have h1:=zFZ (zAu r.target r.rule.toNat r.out.toNat r.time.toNat r.tag l)
 unfold zAu at h1 ⊢
 rw [List.map_append,List.sum_append] at h1
 have p1:=List.length_pos_iff.2 (zHO r.target)
 have p2:=List.length_pos_iff.2 (zHO r.tag)
 have p3:=List.length_pos_iff.2 (zDn r.time.toNat)
 have h2:40≤((zAi r.target r.rule.toNat r.out.toNat r.time.toNat r.tag).map fun x =>x.length+1).sum:=by
  unfold zAi
  simp only [List.map_cons,List.map_nil,List.sum_cons,List.sum_nil,zAr]
  omega
 omega
theorem Trs.few {ls:List (List UInt8)} {zs:List Rw} (h:Trs ls zs):40 * zs.length≤(flat ls).length:=by
 induction h with
 | none =>simp
 | more h1 _ ih =>
  have:=zFc h1
  rw [zAZ,List.length_append,List.length_cons,List.length_cons]
  omega
theorem zJA {xs ys:List Rw} (h:xs.map Rw.say=ys.map Rw.say) (hr:zAz xs):zAz ys:=by
 have ht:xs.map Rw.t=ys.map Rw.t:=by
  have:=congrArg (List.map fun p:Rc×List Dp =>p.1.target) h
  rw [List.map_map,List.map_map] at this
  exact this
 have hk:xs.map Rw.k=ys.map Rw.k:=by
  have:=congrArg (List.map fun p:Rc×List Dp =>p.1.kind) h
  rw [List.map_map,List.map_map] at this
  exact this
 obtain ⟨h1,h2⟩:=hr
 refine ⟨?_,fun y hy =>?_⟩
 ·unfold Up at h1 ⊢
  rw [← List.pairwise_map (f:=Rw.t) (R:=fun a b =>a<b)] at h1 ⊢
  rw [← ht]
  exact h1
 ·have:y.k ∈ xs.map Rw.k:=by rw [hk];exact List.mem_map.2 ⟨y,hy,rfl⟩
  obtain ⟨x,hx,e⟩:=List.mem_map.1 this
  rw [← e]
  exact h2 x hx
theorem Trs.txt {ls:List (List UInt8)} {xs ys:List Rw} (h:Trs ls xs) (g:Trs ls ys):txt xs=txt ys∧(OkT xs→OkT ys):=by
 refine ⟨?_,fun hk =>⟨zJA (h.one g) hk.1,fun y hy =>(g.lns.2 y hy).2⟩⟩
 unfold Go.Proofs.YtgoklhoaedceaaaGreatDoor.txt
 rw [h.lns.1,g.lns.1,h.len,g.len]
theorem zCf {T:List UInt8} (h0:(unsO T).2=0):∃ hd ls fnd,Lib.cut (unsO T).1 [10]=(hd,flat ls,fnd)∧(∀ s ∈ ls,(10:UInt8) ∉ s)∧(flat ls).length≤(unsO T).1.length∧∀ zs,zAV T zs→Trs ls zs:=by
 obtain ⟨_,h1⟩:=zDg h0
 obtain ⟨lls,e,hn⟩:=zEE _ h1
 cases lls with
 | nil =>
  refine ⟨[],[],false,by rw [e];rfl,by simp,by simp [zCg],fun zs h =>?_⟩
  obtain ⟨hd,_,e2⟩:=zEe (xs:=zs) (fun x hx =>⟨h.1 x hx,h.2.1.2 x hx⟩)
  rw [h.uns,e2] at e
  exact absurd e (zCu _ _)
 | cons hd ls =>
  refine ⟨hd,ls,true,by rw [e,zAZ];exact zDN hd _ (hn hd (List.mem_cons_self ..)),fun s hs =>hn s (List.mem_cons_of_mem _ hs),?_,fun zs h =>?_⟩
  ·rw [e,zAZ,List.length_append,List.length_cons]
   omega
  ·have hz:∀ x ∈ zs,zBA x∧lnOk x:=fun x hx =>⟨h.1 x hx,h.2.1.2 x hx⟩
   obtain ⟨hd2,hd10,e2⟩:=zEe (xs:=zs) hz
   have ht:=zEA zs hz
   rw [h.uns,e2] at e
   have e3:=zCO (ls:=hd2 :: zs.map lnT) (ms:=hd :: ls) (fun s hs =>by
    rcases List.mem_cons.1 hs with rfl | hs
    ·exact hd10
    ·obtain ⟨x,hx,rfl⟩:=List.mem_map.1 hs
     obtain ⟨i,hi⟩:=List.mem_iff_getElem?.1 hx
     exact fun hm =>zEU _ _ _ _ _ _ 10 hm rfl) hn e
   injection e3 with _ e4
   rw [← e4]
   exact ht
theorem zLa (T:List UInt8):(unsO T).2=0∨(unsO T).2=3∨(unsO T).2=4:=by
 unfold unsO
 split
 ·split
  ·exact .inl rfl
  ·exact .inr (.inr rfl)
 ·exact .inr (.inl rfl)
theorem zEl (D:List (List UInt8)) (p:List UInt8):flat (D++[p])=flat D++(p++[10]):=by
 unfold flat
 rw [List.flatMap_append]
 simp
def zKN (l:List UInt8) (w:World) (v4 v5 v6:Value) (wr:World):Prop :=
 ∃ (i f:Nat) (D:List (List UInt8)) (a4:Value),a4=v4∧v5=.int .i64 (f:Int)∧v6=.int .i64 (i:Int)∧f≤i∧i≤l.length∧wr.ownsRow w.heap.size 9 1 a4 D.length (D.map tsv)∧l=flat D++l.drop f∧(∀ b ∈ (l.drop f).take (i - f),b≠10)∧(∀ s ∈ D,(10:UInt8) ∉ s)∧D.length≤i∧Below w.heap.size w wr
def zLc (l:List UInt8) (w:World) (e:Ending) (w':World):Prop :=
 ∃ (v:Value) (D:List (List UInt8)) (rest:List UInt8) (ok:Bool),l=flat D++rest∧(10:UInt8) ∉ rest∧(∀ s ∈ D,(10:UInt8) ∉ s)∧(ok=true ↔ rest=[]∧D≠[])∧e=.returned (.tuple #[v,.bool ok])∧w'.ownsRow w.heap.size 9 1 v D.length (D.map tsv)∧Below w.heap.size w w'
theorem zHz (l:List UInt8) (hl:l.length≤1000000) (w:World) :
  Calls Tryz.prog 22 #[.string (tx l)] w (zLc l w):=by
 obtain ⟨i0,ii0,iz0,iz1,iz2⟩:=info_parts zKa
 obtain ⟨n,hn⟩:∃ n,n=l.length:=⟨_,rfl⟩
 have hsz:(tx l).size=n:=by rw [zAK,hn]
 have HN:=yh hn
 have HAT:=yh (fun i x h hp =>zDf l i x h hp)
 have HEX:=yh (fun a b =>zAv l a b)
 have H0:Hid (zKN l w (.slice (some ⟨w.heap.size,0,none⟩) 0 0) (.int .i64 0) (.int .i64 0) (w.alloc (.cells #[] 9))):=⟨0,0,[],_,rfl,rfl,rfl,Nat.le_refl _,Nat.zero_le _,zFh w _,rfl,by simp,by simp,Nat.le_refl _,(Below.refl _ _).alloc (Nat.le_refl _) _⟩
 rw [← hn] at hl
 generalize tx l=s at *
 clear hn
 go_enter Tryz.func22,Tryz.ntmps22
 go_wp2
 go_loopw [4,5,6] (fun v4 v5 v6 wr =>zKN l w v4 v5 v6 wr) (fun _ _ v6 _ =>n - (intOf v6).toNat)
 case atStart =>exact H0.out
 case round =>
  obtain ⟨i,f,D,a4,rfl,rfl,rfl,hfi,hi,hown,hwd,hno,hd10,hdl,hb⟩:=hrel
  clear H0
  rw [← HN.out] at hi
  have HOWN:=yh hown
  have HWD:=yh hwd
  have HNO:=yh hno
  have HB:=yh hb
  have HD10:=yh hd10
  obtain ⟨A3,c3,rfl,_⟩:=zAL hown
  clear hwd hno hb hown hd10
  by_cases hlt:i<n
  ·obtain ⟨b,hbi⟩:∃ b,l[i]? = some b:=⟨_,List.getElem?_eq_getElem (by rw [← HN.out];exact hlt)⟩
   have hk:i<s.size:=by omega
   have hat:=HAT.out i b hbi hk
   have hi0:(0:Int)≤(i:Int):=by omega
   have hi1:(i:Int)<(n:Int):=by omega
   have hf0:(0:Int)≤(f:Int):=by omega
   have hf1:(f:Int)≤(i:Int):=by omega
   have HBI:=yh hbi
   have HX:(s[i].toNat:Int)=(b.toNat:Int):=congrArg Int.ofNat hat
   by_cases hb32:b=10
   ·subst hb32
    have d32:((s[i].toNat:Int) == 10)=true:=by rw [HX];rfl
    have hsl:∀ W,(Instr.slice 9 (.string s) (some (.int .i64 (f:Int))) (some (.int .i64 (i:Int))) none).run Tryz.prog W=.ok (.string (tx ((l.drop f).take (i - f)))) W:=fun W =>by
     have h1:=run_slice_string (P:=Tryz.prog) W 9 s .i64 .i64 (f:Int) (i:Int) Tryz.underlying9 (by omega) (by omega) (by omega)
     rw [Int.toNat_natCast,Int.toNat_natCast,HEX.out,List.drop_take] at h1
     exact h1
    obtain ⟨p,hp⟩:∃ p,p=(l.drop f).take (i - f):=⟨_,rfl⟩
    have HWN:Hid (l=flat (D++[p])++l.drop (i+1)):=by
     show _=_
     conv =>lhs;rw [HWD.out,zEk HBI.out hfi,← hp]
     rw [zEl]
     simp
    rw [← hp] at hsl HNO
    have HP10:Hid (∀ s ∈ D++[p],(10:UInt8) ∉ s):=fun s hs =>by
     rcases List.mem_append.1 hs with hs | hs
     ·exact HD10.out s hs
     ·obtain rfl:=List.mem_singleton.1 hs
      exact fun hm =>HNO.out 10 hm rfl
    have HO2:=yh (World.ownsRow.alloc HOWN.out (.cells #[.string (tx p)] 9))
    have HR2:=yh (zBx wr 9 (.string (tx p)))
    have HB2:=yh (HB.out.alloc HB.out.size (.cells #[.string (tx p)] 9))
    obtain ⟨nd,hnd⟩:∃ nd,nd=D.length:=⟨_,rfl⟩
    have HND:=yh hnd
    rw [← hnd] at HO2 hdl ⊢
    clear hbi hat HX hp hnd
    go_wp2_with (at_builtin;refine zBI _ rfl (.tmp 18) (.tmp 23) 51 rfl w.heap.size 9 i0 _ 1 16 Tryz.underlying51 ii0 iz0 iz1 iz2 rfl (by decide) _ nd _ rfl HO2.out (some ⟨wr.heap.size,0,none⟩) 1 1 (wr.heap.size+1) [.string (tx p)] rfl (by simp) HR2.out (fun u hu =>by obtain rfl:=List.mem_singleton.1 hu;rfl) (by unfold maxLen;omega) (by omega) HB2.out.size ?_;intro v6 w6 ho6 hg6 hv6;have HO6:=yh ho6;have HB6:=yh (HB2.out.grown hg6 HB2.out.size (zAS HO2.out));clear ho6 hg6 hv6)
    exact ⟨⟨i+1,i+1,D++[p],_,rfl,by go_num,by go_num,Nat.le_refl _,by rw [← HN.out];omega,by rw [List.length_append,List.map_append,← HND.out];exact HO6.out,HWN.out,by simp,HP10.out,by rw [List.length_append,← HND.out];simp;omega,HB6.out⟩,by simp [intOf];omega⟩
   ·have d32:((s[i].toNat:Int) == 10)=false:=by
     rw [HX,beq_eq_false_iff_ne]
     intro h
     apply hb32
     apply UInt8.toNat_inj.1
     show b.toNat=10
     omega
    have HN2:Hid (∀ x ∈ (l.drop f).take (i+1 - f),x≠10):=fun x hx =>by
     rw [zDI HBI.out hfi,List.mem_append] at hx
     rcases hx with hx | hx
     ·exact HNO.out x hx
     ·obtain rfl:=List.mem_singleton.1 hx
      exact hb32
    clear hbi hat HX
    go_wp2
    exact ⟨⟨i+1,f,D,_,rfl,rfl,by go_num,by omega,by rw [← HN.out];omega,HOWN.out,HWD.out,HN2.out,HD10.out,by omega,HB.out⟩,by simp [intOf];omega⟩
  ·obtain rfl:i=n:=by omega
   have hi0:(0:Int)≤(i:Int):=by omega
   have hf0:(0:Int)≤(f:Int):=by omega
   have HRE:Hid ((10:UInt8) ∉ l.drop f):=fun hm =>by
    have h1:=HNO.out 10 (by rw [List.take_of_length_le (by rw [List.length_drop,← HN.out];exact Nat.le_refl _)];exact hm)
    exact h1 rfl
   by_cases hfn:f=i
   ·subst hfn
    have HR0:Hid (l.drop f=[]):=List.drop_eq_nil_of_le (by rw [← HN.out];exact Nat.le_refl _)
    cases D with
    | nil =>
     go_wp2
     go_ret2
     exact ⟨_,[],l.drop f,false,HWD.out,HRE.out,by simp,by simp,rfl,HOWN.out,HB.out⟩
    | cons d D =>
     have hdp:0<(d :: D).length:=by simp
     generalize hdd:(d :: D).length=nd at *
     go_wp2
     go_ret2
     exact ⟨_,d :: D,l.drop f,true,HWD.out,HRE.out,HD10.out,by simp [HR0.out],rfl,by rw [hdd];exact HOWN.out,HB.out⟩
   ·have hne:((f:Int) == (i:Int))=false:=by rw [beq_eq_false_iff_ne];omega
    have HR0:Hid (l.drop f≠[]):=fun h =>hfn (by
     have h1:=congrArg List.length h
     rw [List.length_drop,← HN.out] at h1
     simp at h1
     omega)
    go_wp2
    go_ret2
    exact ⟨_,D,l.drop f,false,HWD.out,HRE.out,HD10.out,by simp [HR0.out],rfl,HOWN.out,HB.out⟩
theorem zBh (D:List (List UInt8)) (s:List UInt8):flat (D++[s])=(flat D++s)++[10]:=by rw [zEl,List.append_assoc]
theorem zJg (D:List (List UInt8)):flat D=[]∨(flat D).getLast? = some 10:=by
 cases D with
 | nil =>exact .inl rfl
 | cons s ls =>exact .inr (zFT s ls)
theorem zFt (D:List (List UInt8)) (s:List UInt8) (hs:(10:UInt8) ∉ s):unsO (flat (D++[s]))=if isS s=true then (if zAP (flat D)=flat (D++[s]) then (flat D,0) else ([],4)) else ([],3):=by
 have h1:Lib.hasSuffix (flat (D++[s])) [10]=true:=by rw [zBh];exact List.isSuffixOf_iff_suffix.2 (List.suffix_append _ _)
 have h2:Lib.trimSuffix (flat (D++[s])) [10]=flat D++s:=by
  unfold Lib.trimSuffix
  rw [h1,if_pos rfl,zBh,List.length_append,Nat.add_sub_cancel]
  exact List.take_left
 have h3:kOf (flat (D++[s]))=(flat D).length:=by
  unfold kOf
  rw [h2,zDr (flat D) s 10 (zJg D) hs]
  simp
 have h4:(flat (D++[s])).take (flat D).length=flat D:=by rw [zBh,List.append_assoc,List.take_left]
 unfold unsO
 rw [h1,h2,h3,List.drop_left,h4]
 simp
theorem zHe (T:List UInt8) (h:T.getLast? ≠ some 10):unsO T=([],3):=by
 have h1:Lib.hasSuffix T [10]=false:=by
  rw [Bool.eq_false_iff]
  intro hs
  obtain ⟨a,rfl⟩:=List.isSuffixOf_iff_suffix.1 hs
  exact h (by simp)
 unfold unsO
 rw [h1]
 rfl
theorem zFk (l:List UInt8):(rans l).2=true ↔ l.length=16∧∃ n,rd 0 l=some n:=by
 unfold rans
 split
 ·rename_i h
  cases hr:rd 0 l with
  | none =>simp [rof,h]
  | some n =>simp [rof,h]
 ·rename_i h
  simp [h]
theorem zHS (s:List UInt8):isS s=true ↔ s.length=12∧s.take 4=[115,117,109,32]∧(rans (List.replicate 8 48++s.drop 4)).2=true:=by
 unfold isS
 by_cases hp:Lib.hasPrefix s [115,117,109,32]=true
 ·obtain ⟨d,rfl⟩:=List.isPrefixOf_iff_prefix.1 hp
  have ht:Lib.trimPrefix ([115,117,109,32]++d) [115,117,109,32]=d:=by unfold Lib.trimPrefix;rw [hp];simp
  rw [hp,ht,Bool.true_and,zFk,zFk,List.length_append,List.length_append,List.length_append]
  have h0:rd 0 (List.replicate 8 48)=some 0:=by decide
  have hdr:List.drop 4 ([115,117,109,32]++d)=d:=rfl
  rw [hdr,zEs,zEs,h0]
  constructor
  ·rintro ⟨h1,n,h2⟩
   cases hd:rd 0 d with
   | none =>rw [hd] at h2;cases h2
   | some k =>exact ⟨by simp;omega,rfl,by simp;omega,k,hd⟩
  ·rintro ⟨h1,_,_,n,h2⟩
   have h3:rd 0 d=some n:=h2
   refine ⟨by simp at h1;omega,?_⟩
   obtain ⟨m,hm⟩:=zCk d 0 n 0 h3 n
   rw [h3]
   exact ⟨m,by simpa using hm⟩
 ·have hp2:=Bool.eq_false_iff.2 hp
  rw [hp2,Bool.false_and]
  constructor
  ·intro h;cases h
  ·rintro ⟨h1,h2,_⟩
   exact absurd (List.isPrefixOf_iff_prefix.2 (by rw [← h2];exact List.take_prefix 4 s)) hp
theorem zDJ {w w1 w':World} {va:Value} {zs:List Rw} (h:TrI w1 w' va zs) (hb:Below w.heap.size w w1):TrI w w' va zs :=
 ⟨zCA h.1 hb.size,fun z hz =>zIS (h.2.1 z hz) hb.size,hb.trans (h.2.2.mono hb.size)⟩
theorem zBl {T:List UInt8} (h:(unsO T).2≠0):∀ zs,¬ zAV T zs:=fun zs hz =>h (by rw [hz.uns])
theorem zDX (T:List UInt8) (hT:T.length≤1000000) (hls:∀ hd ls fnd,(unsO T).2=0→Lib.cut (unsO T).1 [10]=(hd,flat ls,fnd)→(∀ s ∈ ls,(10:UInt8) ∉ s)→(∀ s ∈ ls,s.length≤5000)∧ls.length≤5000∧∀ zs,Trs ls zs→zs.length≤125)
  (w:World) (hl:Laid w) (hp:zAl w) (he:zAx w) (hsh:w.ShapedOpen Tryz.prog) :
  Calls Tryz.prog 8 #[.string (tx T)] w (zHJ T w):=by
 have HU:=yh (zCR T (by omega) w hl)
 by_cases h0:(unsO T).2=0
 ·obtain ⟨hd,ls,fnd,hcut,hn10,hflen,hback⟩:=zCf h0
  obtain ⟨hl1,hl2,hl3⟩:=hls hd ls fnd h0 hcut hn10
  have hul:(unsO T).1.length+13=T.length:=by
   have h1:=congrArg List.length (zDg h0).1
   rw [zBj] at h1
   exact h1
  have HT:=yh (fun (W:World) (hb:Below w.heap.size w W) =>zHA (unsO T).1 (by omega) hd fnd ls hcut hn10 (by omega) hl1 hl2 W (hp.below hb) (he.below hb) (zAW hsh hb))
  have HD:=yh (fun (zs:List Rw) (ht:Trs ls zs) (W:World) (hb:Below w.heap.size w W) (A:Option Addr) (n c:Nat) (hr:Recs W W.heap.size A n zs) =>
   zCN A n c zs (by have h1:=hr.len;have h2:=hl3 zs ht;omega) (fun x hx =>(ht.lns.2 x hx).1) W (hl.below hb) (hp.below hb) hr)
  have HBK:=yh hback
  have H0:=yh h0
  rw [h0] at HU
  have hTT:∀ S:List UInt8,((tx S).toList == (tx T).toList)=decide (S=T):=fun S =>by
   rw [zAg,zAg]
   by_cases e:S=T <;> simp [e]
  have HTT:=yh hTT
  generalize tx (unsO T).1=L at *
  clear hback h0 hcut hn10 hflen hul hT hl hp he hsh hTT hls hl1 hl2 hl3
  go_enter Tryz.func8,Tryz.ntmps8
  go_wp2_with fail
  refine HU.out.mono ?_
  rintro e w1 ⟨rfl,hb1⟩
  have HB1:=yh hb1
  clear hb1
  go_wp2_with fail
  refine (HT.out _ HB1.out).mono ?_
  rintro e w2 hans
  rcases hans with ⟨va,zs,htr,rfl,hti⟩ | ⟨hno,rfl,hb2⟩
  ·have HTR:=yh htr
   have HTI:=yh (zDJ hti HB1.out)
   obtain ⟨A,c,rfl,_⟩:=zAL hti.1
   clear hti htr
   go_wp2_with fail
   refine (HD.out zs HTR.out _ HTI.out.2.2 _ _ _ HTI.out.recs).mono ?_
   rintro e w3 ⟨he,hb3⟩
   have HT3:=yh (HTI.out.below hb3)
   clear hb3 HTI
   have HNO:Hid (¬ zAV T zs→∀ ys,¬ zAV T ys):=fun hn ys hy =>by
    have h1:=HBK.out ys hy
    obtain ⟨e1,e2⟩:=h1.txt HTR.out
    exact hn ⟨fun x hx =>(HTR.out.lns.2 x hx).1,e2 hy.2.1,by rw [← e1];exact hy.2.2⟩
   have HGD:Hid (∀ x ∈ zs,zBA x):=fun x hx =>(HTR.out.lns.2 x hx).1
   rcases he with ⟨hok,rfl⟩ | ⟨hok,rfl⟩
   ·by_cases hs:zAP (txt zs)=T
    ·have HY:Hid (zAV T zs):=⟨HGD.out,hok,hs.symm⟩
     have hc:((tx (zAP (txt zs))).toList == (tx T).toList)=true:=by rw [HTT.out,decide_eq_true hs]
     generalize tx (zAP (txt zs))=S at *
     clear hs hok
     go_wp2
     go_ret2
     exact .inl ⟨_,_,_,zs,HY.out,rfl,HT3.out⟩
    ·have HY:Hid (∀ ys,¬ zAV T ys):=HNO.out fun h =>hs h.2.2.symm
     have hc:((tx (zAP (txt zs))).toList == (tx T).toList)=false:=by rw [HTT.out,decide_eq_false hs]
     generalize tx (zAP (txt zs))=S at *
     clear hs hok
     go_wp2
     go_ret2
     exact .inr ⟨HY.out,by rw [H0.out];rfl,HT3.out.2.2⟩
   ·have HY:Hid (∀ ys,¬ zAV T ys):=HNO.out fun h =>hok h.2.1
    clear hok
    go_wp2
    go_ret2
    exact .inr ⟨HY.out,by rw [H0.out];rfl,HT3.out.2.2⟩
  ·have HN:=yh hno
   have HB2:=yh (HB1.out.trans (hb2.mono HB1.out.size))
   clear hno hb2
   go_wp2
   go_ret2
   exact .inr ⟨fun zs hz =>HN.out zs (HBK.out zs hz),by rw [H0.out];rfl,HB2.out⟩
 ·have HW:=yh (zBl h0)
  have hec:=zLa T
  obtain ⟨ec,hE⟩:∃ ec,ec=(unsO T).2:=⟨_,rfl⟩
  have HE:=yh hE
  rw [← hE] at HU h0 hec
  clear hT hl hp he hsh hE hls
  rcases hec with rfl | rfl | rfl
  ·exact absurd rfl h0
  all_goals
   clear h0
   go_enter Tryz.func8,Tryz.ntmps8
   go_wp2_with fail
   refine HU.out.mono ?_
   rintro e w1 ⟨rfl,hb1⟩
   go_wp2
   go_ret2
   exact .inr ⟨HW.out,by rw [← HE.out];rfl,hb1⟩
theorem zDs:∀ l:List (List UInt8),l.length≤(flat l).length∧∀ s ∈ l,s.length≤(flat l).length:=fun l =>by
 induction l with
 | nil =>simp
 | cons a l ih =>
  rw [zAZ,List.length_append,List.length_cons,List.length_cons]
  refine ⟨by omega,fun s hs =>?_⟩
  rcases List.mem_cons.1 hs with rfl | hs
  ·omega
  ·have:=ih.2 s hs;omega
theorem zFg (T:List UInt8) (hT:T.length≤5013) (w:World) (hl:Laid w) (hp:zAl w) (he:zAx w) (hsh:w.ShapedOpen Tryz.prog) :
  Calls Tryz.prog 8 #[.string (tx T)] w (zHJ T w):=by
 refine zDX T (by omega) (fun hd ls fnd h0 hcut hn =>?_) w hl hp he hsh
 have hul:(unsO T).1.length+13=T.length:=by
  have h1:=congrArg List.length (zDg h0).1
  rw [zBj] at h1
  exact h1
 obtain ⟨hd2,ls2,fnd2,hcut2,_,hfl,_⟩:=zCf h0
 rw [hcut] at hcut2
 injection hcut2 with _ h2
 injection h2 with h3 _
 have h4:=zDs ls
 rw [h3] at h4
 rw [← h3] at hfl
 refine ⟨fun s hs =>?_,?_,fun zs hz =>?_⟩
 ·have:=(zDs ls).2 s hs;omega
 ·have:=(zDs ls).1;omega
 ·have:=hz.few;omega
end Go.Proofs.YtgoklhoaedceaaaGreatDoor
