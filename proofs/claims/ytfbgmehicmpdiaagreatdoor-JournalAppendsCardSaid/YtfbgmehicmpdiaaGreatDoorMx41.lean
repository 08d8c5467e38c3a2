/- Texts of one proof. -/
import Derived.ChangeMaps5
import Derived.SliceStrings
import Derived.Test.YtfbgmehicmpdiaaGreatDoorMx40
set_option maxRecDepth 100000
set_option maxHeartbeats 8000000
namespace Go.Proofs.YtfbgmehicmpdiaaGreatDoor
open Go.ChangeShapes Go.WideShapes Go.ChangeAt Go.RowKit Go.Deep
structure Ac where
 kind:Int
 name:List UInt8
 to:List UInt8
 body:List UInt8
 n:Int
 keep:List Int
structure Aw where
 a:Ac
 A:Option Addr
 k:Nat
 c:Nat
 K:Option Addr
 kn:Nat
 kc:Nat
def iv64 (k:Int):Value:=.int .i64 k
def Aw.cells (x:Aw):List Value:=[.int .i64 x.a.kind,.string (tx x.a.name),.string (tx x.a.to),.slice x.A x.k x.c,.int .i64 x.a.n,.slice x.K x.kn x.kc]
def Aw.val (x:Aw):Value:=.agg #[.int .i64 x.a.kind,.string (tx x.a.name),.string (tx x.a.to),.slice x.A x.k x.c,.int .i64 x.a.n,.slice x.K x.kn x.kc]
def aws (xs:List Aw):List Value:=xs.flatMap Aw.cells
theorem zKF (x:Aw):x.cells.length=6:=rfl
theorem zMv (x:Aw) (xs:List Aw):aws (x :: xs)=x.cells++aws xs:=rfl
theorem zJZ:∀ xs:List Aw,(aws xs).length=xs.length * 6
 | [] =>rfl
 | x :: xs =>by rw [zMv,List.length_append,zJZ xs,zKF,List.length_cons];omega
structure AIn (w:World) (B:Nat) (x:Aw):Prop where
 hname:x.a.name.length≤maxLen
 hto:x.a.to.length≤maxLen
 hn:x.a.n≤9223372036854775807
 hkc:x.k≤x.c
 hcm:x.c≤maxLen
 hA:x.A=none→x.c=0
 hbody:zAE w B 1 x.A x.k (x.a.body.map bv)
 hknc:x.kn≤x.kc
 hkcm:x.kc≤maxLen
 hK:x.K=none→x.kc=0
 hkeep:zAE w B 1 x.K x.kn (x.a.keep.map iv64)
theorem AIn.more {w:World} {B B':Nat} {x:Aw} (h:AIn w B x) (hB:B≤B'):AIn w B' x:=⟨h.hname,h.hto,h.hn,h.hkc,h.hcm,h.hA,h.hbody.more hB,h.hknc,h.hkcm,h.hK,h.hkeep.more hB⟩
theorem AIn.below {w w':World} {B:Nat} {x:Aw} (h:AIn w B x) (hb:Below B w w'):AIn w' B x:=⟨h.hname,h.hto,h.hn,h.hkc,h.hcm,h.hA,h.hbody.below hb,h.hknc,h.hkcm,h.hK,h.hkeep.below hb⟩
def Acts (w:World) (B:Nat) (A:Option Addr) (n:Nat) (xs:List Aw):Prop:=zAE w B 6 A n (aws xs)∧∀ x ∈ xs,AIn w B x
theorem Acts.len {w:World} {B:Nat} {A:Option Addr} {n:Nat} {xs:List Aw} (h:Acts w B A n xs):xs.length=n:=by
 have:=h.1.1
 rw [zJZ] at this
 omega
theorem Acts.below {w w':World} {B:Nat} {A:Option Addr} {n:Nat} {xs:List Aw} (h:Acts w B A n xs) (hb:Below B w w'):Acts w' B A n xs :=
 ⟨h.1.below hb,fun x hx =>(h.2 x hx).below hb⟩
theorem Acts.nil (w:World) (B:Nat) (A:Option Addr):Acts w B A 0 []:=⟨⟨by simp [aws],fun h =>absurd h (by omega)⟩,by simp⟩
open Go.RowKit
set_option maxRecDepth 100000
structure FsSt where
 fl:List UInt8→Option Fl
 down:Bool
 f:Bool×Int
 g:Bool×Int
def FsAt (w:World) (base p b N:Nat) (σ:FsSt) (F:List UInt8→Option Value):Prop:=zAL w p b σ.down σ.f σ.g∧zAa w base b N σ.fl F
theorem FsAt.below {w w':World} {base p b N:Nat} {σ:FsSt} {F:List UInt8→Option Value} (h:FsAt w base p b N σ F) (hb:Below w.heap.size w w'):FsAt w' base p b N σ F:=⟨h.1.below hb,h.2.below hb⟩
theorem FsAt.past {w w':World} {base p b N:Nat} {S:Nat→Prop} {σ:FsSt} {F:List UInt8→Option Value} (h:FsAt w base p b N σ F) (ht:Turn S w w') (hs:∀ k,zAS p b F k→¬ S k):FsAt w' base p b N σ F:=by
 have hb:∀ k,zAS p b F k→w'.heap[k]? = w.heap[k]?:=fun k hk =>ht.2.2.2.2 k (zEN h.2 h.1 k hk) (hs k hk)
 exact ⟨(hb p (.inl rfl)).trans h.1,h.2.turn hb⟩
def refC (σ:FsSt) (a:Ac):Int :=
 if σ.down=true then 7 else if a.kind=0 then 0 else match σ.fl a.name with | none =>6 | some x =>if a.kind=1∧(a.n<0∨(x.body.length:Int)<a.n) then 1 else 0
def zBj (σ:FsSt) (a:Ac):List UInt8→Option Fl :=
 if a.kind=0 then zAZ σ.fl a.name (some ⟨(zAl σ.fl a.name).body++a.body,(zAl σ.fl a.name).safe⟩)
 else if a.kind=1 then zAZ σ.fl a.name (some ⟨(zAl σ.fl a.name).body.take a.n.toNat,min (zAl σ.fl a.name).safe a.n.toNat⟩)
 else if a.kind=2 then zAZ σ.fl a.name (some ⟨(zAl σ.fl a.name).body,(zAl σ.fl a.name).body.length⟩)
 else if a.kind=3 then zAZ (zAZ σ.fl a.name none) a.to (some (zAl σ.fl a.name))
 else zAZ σ.fl a.name none
def actS (σ:FsSt) (a:Ac):FsSt:=⟨zCH (zAm σ.f σ.g (decide (a.kind=0))) (zBj σ a) σ.fl,zAb σ.g,zAH σ.f,zAH σ.g⟩
theorem zEa {fl:List UInt8→Option Fl} {s:List UInt8} {x:Fl} (h:fl s=some x):zAl fl s=x:=by unfold zAl;rw [h];rfl
theorem zJC {w w':World} {base p b N:Nat} {down:Bool} {f g:Bool×Int} {fl:List UInt8→Option Fl} {F:List UInt8→Option Value} (h:zAa w base b N fl F) (hx:zAL w p b down f g) (ht:Turn (fun k =>k=p) w w'):zAa w' base b N fl F :=
 zBN h hx ⟨ht.1,ht.2.1,ht.2.2.1,ht.2.2.2.1,fun k hk hne =>ht.2.2.2.2 k hk (fun e =>hne (by rw [e]))⟩
def DidA (base p b N:Nat) (σ:FsSt) (F:List UInt8→Option Value) (a:Ac) (w:World) (c:Int) (w':World):Prop :=
 ∃ (σ':FsSt) (N':Nat) (F':List UInt8→Option Value),FsAt w' base p b N' σ' F'∧N'≤N+2∧Turn (zAS p b F) w w'∧(∀ k,zAS p b F' k→zAS p b F k∨w.heap.size≤k)∧((refC σ a≠0∧σ'=σ∧c=refC σ a)∨(refC σ a=0∧σ'=actS σ a∧c=zAn σ.f σ.g))
theorem zCD {base p b N:Nat} {σ:FsSt} {F:List UInt8→Option Value} {a:Ac} {w w':World} {c:Int} (h:FsAt w base p b N σ F) (h2:Below w.heap.size w w') (hr:refC σ a=c) (hc:c≠0):DidA base p b N σ F a w c w' :=
 ⟨σ,N,F,h.below h2,by omega,Turn.of_below h2,fun k hk =>.inl hk,.inl ⟨by rw [hr];exact hc,rfl,hr.symm⟩⟩
theorem zDq {base p b N N':Nat} {σ:FsSt} {F F':List UInt8→Option Value} {a:Ac} {w w':World} {fl':List UInt8→Option Fl} (h2:zFb w w' base p b N N' (zAb σ.g) (zAH σ.f) (zAH σ.g) fl' F F')
  (hr:refC σ a=0) (hfl:(actS σ a).fl=fl'):DidA base p b N σ F a w (zAn σ.f σ.g) w' :=
 ⟨actS σ a,N',F',⟨h2.box,by rw [hfl];exact h2.files⟩,h2.room,h2.turn,h2.sub,.inr ⟨hr,rfl,rfl⟩⟩
def zKE (σ:FsSt):Prop:=∀ u y,σ.fl u=some y→y.body.length≤100000000∧y.safe≤y.body.length∧u.length≤maxLen
theorem zJY (p b N base:Nat) (σ:FsSt) (F:List UInt8→Option Value) (hN:N≤100000) (hsz:zKE σ) (hf:zAX σ.f) (hg:zAX σ.g) (w:World) (hbase:base≤w.heap.size) (hx:FsAt w base p b N σ F) (nm:List UInt8) (hnm:nm.length≤maxLen) (B:Nat) (hBw:B≤w.heap.size) (A:Option Addr) (k c:Nat) (body:List UInt8) (hA:A=none→c=0) (hk:k≤50000000) (hr:zAE w B 1 A k (body.map bv)) :
  Calls Tryz.prog 9 #[.pointer (some ⟨p,0,none⟩),.string (tx nm),.slice A k c] w fun e w' =>∃ e0,e=.returned (.int .i64 e0)∧DidA base p b N σ F ⟨0,nm,[],body,0,[]⟩ w e0 w':=by
 have hgl:(zAl σ.fl nm).body.length≤100000000:=by
  unfold zAl
  cases e:σ.fl nm with
  | none =>simp
  | some y =>exact (hsz nm y e).1
 obtain ⟨hx1,hf1⟩:=id hx
 cases hd:σ.down with
 | true =>
  rw [hd] at hx1
  exact (zIz p b σ.f σ.g nm A k c _ hx1).mono fun e w' ⟨he,hb⟩ =>⟨7,he,zCD hx hb (by simp [refC,hd]) (by omega)⟩
 | false =>
  rw [hd] at hx1
  refine (zKG p b N base B σ.f σ.g hf hg σ.fl F nm hnm A k c body hA (by omega) (by omega) (by omega) _ hbase hx1 hf1 hBw hr).mono fun e w' ⟨he,N',F',hact⟩ =>⟨_,he,zDq hact (by simp [refC,hd]) ?_⟩
  simp [actS,zBj]
theorem zMp (p b N base:Nat) (σ:FsSt) (F:List UInt8→Option Value) (hN:N≤100000) (hsz:zKE σ) (hf:zAX σ.f) (hg:zAX σ.g) (w:World) (hbase:base≤w.heap.size) (hx:FsAt w base p b N σ F) (nm:List UInt8) (hnm:nm.length≤maxLen) (z:Int) :
  Calls Tryz.prog 36 #[.pointer (some ⟨p,0,none⟩),.string (tx nm),.int .i64 z] w fun e w' =>∃ e0,e=.returned (.int .i64 e0)∧DidA base p b N σ F ⟨1,nm,[],[],z,[]⟩ w e0 w':=by
 obtain ⟨hx1,hf1⟩:=id hx
 cases hd:σ.down with
 | true =>
  rw [hd] at hx1
  exact (zLA p b σ.f σ.g nm z _ hx1).mono fun e w' ⟨he,hb⟩ =>⟨7,he,zCD hx hb (by simp [refC,hd]) (by omega)⟩
 | false =>
  rw [hd] at hx1
  cases hfx:σ.fl nm with
  | none =>exact (zLB p b N σ.f σ.g nm hnm z F _ hx1 hf1.1 (hf1.2.1 nm hfx)).mono fun e w' ⟨he,hb⟩ =>⟨6,he,zCD hx hb (by simp [refC,hd,hfx]) (by omega)⟩
  | some y =>
   by_cases hzz:z<0∨(y.body.length:Int)<z
   ·obtain ⟨A',c',hF,_⟩:=hf1.2.2.1 nm y hfx
    exact (zMo p b N σ.f σ.g A' y.body.length c' y.safe nm hnm z F _ hx1 hf1.1 hF hzz).mono fun e w' ⟨he,hb⟩ =>⟨1,he,zCD hx hb (by simp [refC,hd,hfx,hzz]) (by omega)⟩
   ·obtain ⟨q,rfl⟩:∃ q:Nat,z=(q:Int):=⟨z.toNat,by omega⟩
    refine (zMn p b N base σ.f σ.g hf hg σ.fl F nm hnm y hfx q (by omega) (by omega) (Nat.le_trans (hsz nm y hfx).1 (by omega)) _ hbase hx1 hf1).mono fun e w' ⟨he,N',F',hact⟩ =>⟨_,he,zDq hact (by simp only [refC,hd,hfx];rw [if_neg (by simp),if_neg (by simp),if_neg (fun h =>hzz h.2)]) ?_⟩
    simp [actS,zBj,zEa hfx]
theorem zIr (p b N base:Nat) (σ:FsSt) (F:List UInt8→Option Value) (hN:N≤100000) (hf:zAX σ.f) (hg:zAX σ.g) (w:World) (hx:FsAt w base p b N σ F) (nm:List UInt8) (hnm:nm.length≤maxLen) :
  Calls Tryz.prog 18 #[.pointer (some ⟨p,0,none⟩),.string (tx nm)] w fun e w' =>∃ e0,e=.returned (.int .i64 e0)∧DidA base p b N σ F ⟨2,nm,[],[],0,[]⟩ w e0 w':=by
 obtain ⟨hx1,hf1⟩:=id hx
 cases hd:σ.down with
 | true =>
  rw [hd] at hx1
  exact (zMc p b σ.f σ.g nm _ hx1).mono fun e w' ⟨he,hb⟩ =>⟨7,he,zCD hx hb (by simp [refC,hd]) (by omega)⟩
 | false =>
  rw [hd] at hx1
  cases hfx:σ.fl nm with
  | none =>exact (zMd p b N σ.f σ.g nm hnm F (hf1.2.1 nm hfx) _ hx1 hf1.1).mono fun e w' ⟨he,hb⟩ =>⟨6,he,zCD hx hb (by simp [refC,hd,hfx]) (by omega)⟩
  | some y =>
   refine (zOG p b N base σ.f σ.g hf hg σ.fl F nm hnm y hfx (by omega) _ hx1 hf1).mono fun e w' ⟨he,N',F',hact⟩ =>⟨_,he,zDq hact (by simp [refC,hd,hfx]) ?_⟩
   simp [actS,zBj,zEa hfx]
theorem zKs (p b N base:Nat) (σ:FsSt) (F:List UInt8→Option Value) (hN:N≤100000) (hf:zAX σ.f) (hg:zAX σ.g) (w:World) (hx:FsAt w base p b N σ F) (nm:List UInt8) (hnm:nm.length≤maxLen) (to:List UInt8) (hto:to.length≤maxLen) :
  Calls Tryz.prog 32 #[.pointer (some ⟨p,0,none⟩),.string (tx nm),.string (tx to)] w fun e w' =>∃ e0,e=.returned (.int .i64 e0)∧DidA base p b N σ F ⟨3,nm,to,[],0,[]⟩ w e0 w':=by
 obtain ⟨hx1,hf1⟩:=id hx
 cases hd:σ.down with
 | true =>
  rw [hd] at hx1
  exact (zJR p b σ.f σ.g nm to _ hx1).mono fun e w' ⟨he,hb⟩ =>⟨7,he,zCD hx hb (by simp [refC,hd]) (by omega)⟩
 | false =>
  rw [hd] at hx1
  cases hfx:σ.fl nm with
  | none =>exact (zJS p b N σ.f σ.g nm to hnm F (hf1.2.1 nm hfx) _ hx1 hf1.1).mono fun e w' ⟨he,hb⟩ =>⟨6,he,zCD hx hb (by simp [refC,hd,hfx]) (by omega)⟩
  | some y =>
   refine (zKr p b N base σ.f σ.g hf hg σ.fl F nm to hnm hto y hfx (by omega) _ hx1 hf1).mono fun e w' ⟨he,N',F',hact⟩ =>⟨_,he,zDq hact (by simp [refC,hd,hfx]) ?_⟩
   simp [actS,zBj,zEa hfx]
theorem zKq (p b N base:Nat) (σ:FsSt) (F:List UInt8→Option Value) (hf:zAX σ.f) (hg:zAX σ.g) (w:World) (hx:FsAt w base p b N σ F) (nm:List UInt8) (hnm:nm.length≤maxLen) :
  Calls Tryz.prog 49 #[.pointer (some ⟨p,0,none⟩),.string (tx nm)] w fun e w' =>∃ e0,e=.returned (.int .i64 e0)∧DidA base p b N σ F ⟨4,nm,[],[],0,[]⟩ w e0 w':=by
 obtain ⟨hx1,hf1⟩:=id hx
 cases hd:σ.down with
 | true =>
  rw [hd] at hx1
  exact (zJP p b σ.f σ.g nm _ hx1).mono fun e w' ⟨he,hb⟩ =>⟨7,he,zCD hx hb (by simp [refC,hd]) (by omega)⟩
 | false =>
  rw [hd] at hx1
  cases hfx:σ.fl nm with
  | none =>exact (zJQ p b N σ.f σ.g nm hnm F (hf1.2.1 nm hfx) _ hx1 hf1.1).mono fun e w' ⟨he,hb⟩ =>⟨6,he,zCD hx hb (by simp [refC,hd,hfx]) (by omega)⟩
  | some y =>
   refine (zKp p b N base σ.f σ.g hf hg σ.fl F nm hnm y hfx _ hx1 hf1).mono fun e w' ⟨he,N',F',hact⟩ =>⟨_,he,zDq hact (by simp [refC,hd,hfx]) ?_⟩
   simp [actS,zBj]
def zBg (σ:FsSt):Prop:=σ.down=false∧σ.f.1=false∧σ.g.1=false
def SzS (m:Nat) (σ:FsSt):Prop:=∀ u y,σ.fl u=some y→y.body.length≤m∧y.safe≤y.body.length∧u.length≤1000
theorem SzS.small {m:Nat} {σ:FsSt} (h:SzS m σ) (hm:m≤100000000):zKE σ:=fun u y hu =>⟨Nat.le_trans (h u y hu).1 hm,(h u y hu).2.1,Nat.le_trans (h u y hu).2.2 (by unfold maxLen;omega)⟩
theorem SzS.more {m m':Nat} {σ:FsSt} (h:SzS m σ) (hm:m≤m'):SzS m' σ:=fun u y hu =>⟨Nat.le_trans (h u y hu).1 hm,(h u y hu).2⟩
theorem zBt {a:Bool×Int} (h:a.1=false):zAH a=a∧zAb a=false:=by
 unfold zAH zAb
 rw [h]
 simp
theorem zFe {σ σ':FsSt} {a:Ac} {c:Int} (hf:zAX σ.f) (hg:zAX σ.g) (h:(refC σ a≠0∧σ'=σ∧c=refC σ a)∨(refC σ a=0∧σ'=actS σ a∧c=zAn σ.f σ.g)) :
  (c=0∧refC σ a=0∧σ'.fl=zBj σ a∧σ'.down=false∧σ'.f=zAH σ.f∧σ'.g=zAH σ.g) ∨
  (c≠0∧(refC σ a=0→¬ zBg σ)∧(σ'.fl=σ.fl∨(refC σ a=0∧a.kind=0∧σ'.fl=zBj σ a))∧zAX σ'.f∧zAX σ'.g):=by
 rcases h with ⟨h1,rfl,rfl⟩ | ⟨h1,rfl,rfl⟩
 ·exact .inr ⟨h1,fun h2 =>absurd h2 h1,.inl rfl,hf,hg⟩
 ·cases hgn:zAb σ.g with
  | true =>
   refine .inr ⟨by simp [zAn,hgn],fun _ hq =>?_,?_,zBJ hf,zBJ hg⟩
   ·have:=(zBt hq.2.2).2
    rw [hgn] at this;cases this
   ·by_cases hk:a.kind=0
    ·exact .inr ⟨h1,hk,by simp [actS,zAm,hgn,hk,zCH]⟩
    ·exact .inl (by simp [actS,zAm,hgn,hk,zCH])
  | false =>
   cases hfn:zAb σ.f with
   | true =>
    refine .inr ⟨by simp [zAn,hgn,hfn],fun _ hq =>?_,.inl (by simp [actS,zAm,hgn,hfn,zCH]),zBJ hf,zBJ hg⟩
    have:=(zBt hq.2.1).2
    rw [hfn] at this;cases this
   | false =>exact .inl ⟨by simp [zAn,hgn,hfn],h1,by simp [actS,zAm,hgn,hfn,zCH],by simp [actS,hgn],rfl,rfl⟩
def asK (sd B:List UInt8) (k:Nat) (σ0 σ:FsSt):Prop :=
 match k with
 | 0 =>σ.fl sd=σ0.fl sd
 | 1 =>σ.fl sd=none
 | 2 =>σ.fl sd=some ⟨B,0⟩
 | _ =>σ.fl sd=some ⟨B,B.length⟩
structure StK (sd B:List UInt8) (M k:Nat) (σ0 σ:FsSt):Prop where
 other:∀ u,u≠sd→σ.fl u=σ0.fl u
 at_:asK sd B k σ0 σ
 hf:zAX σ.f
 hg:zAX σ.g
 sz:SzS M σ
 quiet:zBg σ0→zBg σ
structure StN (sd:List UInt8) (M:Nat) (σ0 σ:FsSt):Prop where
 other:∀ u,u≠sd→σ.fl u=σ0.fl u
 hf:zAX σ.f
 hg:zAX σ.g
 sz:SzS M σ
 loud:¬ zBg σ0
structure StY (nm sd B:List UInt8) (M:Nat) (σ0 σ:FsSt):Prop where
 other:∀ u,u≠sd→u≠nm→σ.fl u=σ0.fl u
 new:σ.fl nm=some ⟨B,B.length⟩
 gone:σ.fl sd=none
 hf:zAX σ.f
 hg:zAX σ.g
 sz:SzS M σ
 quiet:zBg σ0→zBg σ
 down:σ.down=false
theorem StK.start {sd B:List UInt8} {M:Nat} {σ:FsSt} (hf:zAX σ.f) (hg:zAX σ.g) (hs:SzS M σ):StK sd B M 0 σ σ:=⟨fun _ _ =>rfl,rfl,hf,hg,hs,id⟩
theorem StK.none_ {sd B:List UInt8} {M:Nat} {σ0 σ:FsSt} (h:StK sd B M 0 σ0 σ) (hn:σ.fl sd=none):StK sd B M 1 σ0 σ:=⟨h.other,hn,h.hf,h.hg,h.sz,h.quiet⟩
theorem zDf {σ σ':FsSt} (h:zBg σ) (h1:σ'.down=false) (h2:σ'.f=zAH σ.f) (h3:σ'.g=zAH σ.g):zBg σ' :=
 ⟨h1,by rw [h2,(zBt h.2.1).1];exact h.2.1,by rw [h3,(zBt h.2.2).1];exact h.2.2⟩
theorem zCy {m:Nat} {σ σ':FsSt} {s:List UInt8} {x:Option Fl} (h:SzS m σ) (e:σ'.fl=zAZ σ.fl s x) (hx:∀ y,x=some y→y.body.length≤m∧y.safe≤y.body.length∧s.length≤1000):SzS m σ':=by
 intro u y hu
 rw [e] at hu
 unfold zAZ at hu
 by_cases hs:u=s
 ·rw [if_pos hs] at hu;rw [hs];exact hx y hu
 ·rw [if_neg hs] at hu;exact h u y hu
theorem zDU {fl:List UInt8→Option Fl} {s:List UInt8} {x:Option Fl}:zAZ fl s x s=x:=by unfold zAZ;rw [if_pos rfl]
theorem zCX {fl:List UInt8→Option Fl} {s u:List UInt8} {x:Option Fl} (h:u≠s):zAZ fl s x u=fl u:=by unfold zAZ;rw [if_neg h]
section
variable {nm sd B:List UInt8} {M:Nat} {σ0 σ σ':FsSt} {c:Int}
theorem zGm {k:Nat} (h:StK sd B M k σ0 σ) (hl:¬ zBg σ) (hf:zAX σ'.f) (hg:zAX σ'.g) (e:σ'.fl=σ.fl):StN sd M σ0 σ' :=
 ⟨fun u hu =>by rw [e];exact h.other u hu,hf,hg,fun u y hu =>h.sz u y (by rw [← e];exact hu),fun hq =>hl (h.quiet hq)⟩
theorem zMZ (h:StK sd B M 0 σ0 σ) (hy:(σ.fl sd).isSome=true) (ho:(refC σ ⟨4,sd,[],[],0,[]⟩≠0∧σ'=σ∧c=refC σ ⟨4,sd,[],[],0,[]⟩)∨(refC σ ⟨4,sd,[],[],0,[]⟩=0∧σ'=actS σ ⟨4,sd,[],[],0,[]⟩∧c=zAn σ.f σ.g)) :
  (c=0∧StK sd B M 1 σ0 σ')∨(c≠0∧StN sd M σ0 σ'):=by
 obtain ⟨y,hy⟩:=Option.isSome_iff_exists.1 hy
 have hr:∀ (_:zBg σ),refC σ ⟨4,sd,[],[],0,[]⟩=0:=fun hq =>by simp [refC,hq.1,hy]
 rcases zFe h.hf h.hg ho with ⟨h1,_,h2,h3,h4,h5⟩ | ⟨h1,h2,h3,h4,h5⟩
 ·have e:σ'.fl=zAZ σ.fl sd none:=by rw [h2];simp [zBj]
  exact .inl ⟨h1,fun u hu =>by rw [e,zCX hu];exact h.other u hu,show σ'.fl sd=none by rw [e,zDU],by rw [h4];exact zBJ h.hf,by rw [h5];exact zBJ h.hg,zCy h.sz e (fun _ h =>by cases h),fun hq =>zDf (h.quiet hq) h3 h4 h5⟩
 ·refine .inr ⟨h1,zGm h (fun hq =>h2 (hr hq) hq) h4 h5 ?_⟩
  rcases h3 with h3 | ⟨_,h6,_⟩
  ·exact h3
  ·exact absurd h6 (by simp)
theorem zMY (h:StK sd B M 1 σ0 σ) (hB:B.length≤M) (hsd:sd.length≤1000) (ho:(refC σ ⟨0,sd,[],B,0,[]⟩≠0∧σ'=σ∧c=refC σ ⟨0,sd,[],B,0,[]⟩)∨(refC σ ⟨0,sd,[],B,0,[]⟩=0∧σ'=actS σ ⟨0,sd,[],B,0,[]⟩∧c=zAn σ.f σ.g)) :
  (c=0∧StK sd B M 2 σ0 σ')∨(c≠0∧StN sd M σ0 σ'):=by
 have ha:σ.fl sd=none:=h.at_
 have hr:∀ (_:zBg σ),refC σ ⟨0,sd,[],B,0,[]⟩=0:=fun hq =>by simp [refC,hq.1]
 have hn:zBj σ ⟨0,sd,[],B,0,[]⟩=zAZ σ.fl sd (some ⟨B,0⟩):=by simp [zBj,zAl,ha]
 rcases zFe h.hf h.hg ho with ⟨h1,_,h2,h3,h4,h5⟩ | ⟨h1,h2,h3,h4,h5⟩
 ·have e:σ'.fl=zAZ σ.fl sd (some ⟨B,0⟩):=by rw [h2,hn]
  exact .inl ⟨h1,fun u hu =>by rw [e,zCX hu];exact h.other u hu,show σ'.fl sd=some ⟨B,0⟩ by rw [e,zDU],by rw [h4];exact zBJ h.hf,by rw [h5];exact zBJ h.hg,zCy h.sz e (fun y h =>by obtain rfl:=Option.some.inj h;exact ⟨hB,Nat.zero_le _,hsd⟩),fun hq =>zDf (h.quiet hq) h3 h4 h5⟩
 ·refine .inr ⟨h1,?_⟩
  rcases h3 with h3 | ⟨_,_,h3⟩
  ·exact zGm h (fun hq =>h2 (hr hq) hq) h4 h5 h3
  ·have e:σ'.fl=zAZ σ.fl sd (some ⟨B,0⟩):=by rw [h3,hn]
   exact ⟨fun u hu =>by rw [e,zCX hu];exact h.other u hu,h4,h5,zCy h.sz e (fun y h =>by obtain rfl:=Option.some.inj h;exact ⟨hB,Nat.zero_le _,hsd⟩),fun hq =>h2 (hr (h.quiet hq)) (h.quiet hq)⟩
theorem zPk (h:StK sd B M 2 σ0 σ) (hB:B.length≤M) (hsd:sd.length≤1000) (ho:(refC σ ⟨2,sd,[],[],0,[]⟩≠0∧σ'=σ∧c=refC σ ⟨2,sd,[],[],0,[]⟩)∨(refC σ ⟨2,sd,[],[],0,[]⟩=0∧σ'=actS σ ⟨2,sd,[],[],0,[]⟩∧c=zAn σ.f σ.g)) :
  (c=0∧StK sd B M 3 σ0 σ')∨(c≠0∧StN sd M σ0 σ'):=by
 have ha:σ.fl sd=some ⟨B,0⟩:=h.at_
 have hr:∀ (_:zBg σ),refC σ ⟨2,sd,[],[],0,[]⟩=0:=fun hq =>by simp [refC,hq.1,ha]
 rcases zFe h.hf h.hg ho with ⟨h1,_,h2,h3,h4,h5⟩ | ⟨h1,h2,h3,h4,h5⟩
 ·have e:σ'.fl=zAZ σ.fl sd (some ⟨B,B.length⟩):=by rw [h2];simp [zBj,zAl,ha]
  exact .inl ⟨h1,fun u hu =>by rw [e,zCX hu];exact h.other u hu,show σ'.fl sd=some ⟨B,B.length⟩ by rw [e,zDU],by rw [h4];exact zBJ h.hf,by rw [h5];exact zBJ h.hg,zCy h.sz e (fun y h =>by obtain rfl:=Option.some.inj h;exact ⟨hB,Nat.le_refl _,hsd⟩),fun hq =>zDf (h.quiet hq) h3 h4 h5⟩
 ·refine .inr ⟨h1,zGm h (fun hq =>h2 (hr hq) hq) h4 h5 ?_⟩
  rcases h3 with h3 | ⟨_,h6,_⟩
  ·exact h3
  ·exact absurd h6 (by simp)
theorem zMa (hne:nm≠sd) (hnm:nm.length≤1000) (h:StK sd B M 3 σ0 σ) (hB:B.length≤M) (ho:(refC σ ⟨3,sd,nm,[],0,[]⟩≠0∧σ'=σ∧c=refC σ ⟨3,sd,nm,[],0,[]⟩)∨(refC σ ⟨3,sd,nm,[],0,[]⟩=0∧σ'=actS σ ⟨3,sd,nm,[],0,[]⟩∧c=zAn σ.f σ.g)) :
  (c=0∧StY nm sd B M σ0 σ')∨(c≠0∧StN sd M σ0 σ'):=by
 have ha:σ.fl sd=some ⟨B,B.length⟩:=h.at_
 have hr:∀ (_:zBg σ),refC σ ⟨3,sd,nm,[],0,[]⟩=0:=fun hq =>by simp [refC,hq.1,ha]
 rcases zFe h.hf h.hg ho with ⟨h1,_,h2,h3,h4,h5⟩ | ⟨h1,h2,h3,h4,h5⟩
 ·have e:σ'.fl=zAZ (zAZ σ.fl sd none) nm (some ⟨B,B.length⟩):=by rw [h2];simp [zBj,zAl,ha]
  refine .inl ⟨h1,fun u hu hu2 =>by rw [e,zCX hu2,zCX hu];exact h.other u hu,by rw [e,zDU],by rw [e,zCX (fun e2 =>hne e2.symm),zDU],by rw [h4];exact zBJ h.hf,by rw [h5];exact zBJ h.hg,?_,fun hq =>zDf (h.quiet hq) h3 h4 h5,h3⟩
  have h6:SzS M ⟨zAZ σ.fl sd none,σ.down,σ.f,σ.g⟩:=zCy h.sz rfl (fun _ h =>by cases h)
  exact zCy h6 e (fun y h =>by obtain rfl:=Option.some.inj h;exact ⟨hB,Nat.le_refl _,hnm⟩)
 ·refine .inr ⟨h1,zGm h (fun hq =>h2 (hr hq) hq) h4 h5 ?_⟩
  rcases h3 with h3 | ⟨_,h6,_⟩
  ·exact h3
  ·exact absurd h6 (by simp)
end
end Go.Proofs.YtfbgmehicmpdiaaGreatDoor
