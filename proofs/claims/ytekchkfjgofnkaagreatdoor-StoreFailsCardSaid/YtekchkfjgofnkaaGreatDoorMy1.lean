/- Texts of one proof. -/
import Derived.Below
import Derived.Deep.AppendLies
import Derived.Deep.Draws
import Derived.Laws.AppendOwnNone
import Derived.Laws.BytesArg
import Derived.Laws.Concat
import Derived.Laws.CopyOwn
import Derived.Laws.IdiomStrings
import Derived.Laws.OwnMore
import Derived.Laws.Strings
import Derived.Lib.AppendStr
import Derived.Lib.Hide
import Derived.Maps.AppendAt
import Derived.OpenShut
import Derived.OrdersHeld
import Derived.OwnWalk
import Derived.OwnWalkIn
import Derived.ProofKit
import Derived.Shelf.Abstract
import Derived.Test.YtekchkfjgofnkaaGreatDoorProg
import Derived.WalkKit
set_option maxRecDepth 100000
set_option maxHeartbeats 8000000
namespace Go.Proofs.YtekchkfjgofnkaaGreatDoor
theorem yh {p:Prop} (h:p):Go.RowKit.Hid p:=h
open Go.RowKit
theorem zAQ (a:Addr) (n:Nat):(a.add n).block=a.block:=by unfold Addr.add;split <;> rfl
theorem zCL (a:Addr) (i j:Nat):(a.add i).add j=a.add (i+j):=by
 unfold Addr.add
 by_cases hi:i=0 <;> by_cases hj:j=0 <;> simp [hi,hj,Nat.add_assoc]
def zAD (w:World) (B size:Nat) (A:Option Addr) (n:Nat) (xs:List Value):Prop :=
 xs.length=n * size∧(0<n→∃ ad,A=some ad∧ad.block<B∧∀ j u,xs[j]? = some u→w.cell? (ad.add j)=some u)
section
variable {w w':World} {B B' size n:Nat} {A:Option Addr} {xs:List Value}
theorem zAD.none_:zAD w B size A 0 []:=⟨by simp,fun h =>absurd h (by omega)⟩
theorem zAD.at_ {k:Nat} (h:zAD w B 1 A n xs) (hk:k<n):∃ ad u,A=some ad∧ad.block<B∧xs[k]? = some u∧w.cell? (ad.add k)=some u:=by
 obtain ⟨ad,e,hb,hc⟩:=h.2 (by omega)
 have hl:k<xs.length:=by have:=h.1;omega
 exact ⟨ad,xs[k],e,hb,List.getElem?_eq_getElem hl,hc k _ (List.getElem?_eq_getElem hl)⟩
theorem zAD.keep (h:zAD w B size A n xs) (hk:∀ p:Addr,p.block<B→w'.cell? p=w.cell? p):zAD w' B size A n xs :=
 ⟨h.1,fun hn =>by
  obtain ⟨ad,e,hb,hc⟩:=h.2 hn
  exact ⟨ad,e,hb,fun j u hu =>(hk _ (by rw [zAQ];exact hb)).trans (hc j u hu)⟩⟩
theorem zAD.more (h:zAD w B size A n xs) (hB:B≤B'):zAD w B' size A n xs :=
 ⟨h.1,fun hn =>by
  obtain ⟨ad,e,hb,hc⟩:=h.2 hn
  exact ⟨ad,e,by omega,hc⟩⟩
theorem zAD.below (h:zAD w B size A n xs) (hb:Below B w w'):zAD w' B size A n xs:=h.keep fun _ hp =>hb.cell hp
theorem zAD.drew (h:zAD w B size A n xs):zAD w.drew B size A n xs:=h
theorem zAD.drewN (h:zAD w B size A n xs) (k:Nat):zAD (w.drewN k) B size A n xs:=h
theorem zAD.alloc (h:zAD w B size A n xs) (hB:B≤w.heap.size) (o:Obj):zAD (w.alloc o) B size A n xs:=h.keep fun p hp =>World.cell?_alloc_lt w o p (by omega)
theorem zAD.setCell (h:zAD w B size A n xs) {p:Addr} (hB:B≤p.block) (u:Value):zAD (w.setCell p u) B size A n xs :=
 h.keep fun q hq =>World.cell?_setCell_other w p q u (fun e =>by subst e;omega)
theorem zAD.grown (h:zAD w B size A n xs) {row:Option Nat} (hg:w.grownBy w' row) (hB:B≤w.heap.size) (hr:∀ g,row=some g→B≤g):zAD w' B size A n xs :=
 h.keep fun p hp =>World.cell?_of_block (hg.block p.block (by omega) (fun e =>by have:=hr _ e.symm;omega))
theorem zAD.cut (h:zAD w B size A n xs) {k cap:Nat} (hk:k≤n) (hc:n≤cap) :
  zAD w B size (if cap=k then A else A.map (·.add (k * size))) (n - k) (xs.drop (k * size)):=by
 refine ⟨by rw [List.length_drop,h.1,Nat.sub_mul],fun hn =>?_⟩
 obtain ⟨ad,rfl,hb,hcell⟩:=h.2 (by omega)
 rw [if_neg (by omega)]
 refine ⟨ad.add (k * size),rfl,by rw [zAQ];exact hb,fun j u hu =>?_⟩
 rw [zCL]
 exact hcell _ u (by rw [← hu,List.getElem?_drop])
theorem zAD.take (h:zAD w B 1 A n xs) {k:Nat} (hk:k≤n):zAD w B 1 A k (xs.take k):=by
 refine ⟨by rw [List.length_take,h.1];omega,fun hn =>?_⟩
 obtain ⟨ad,rfl,hb,hcell⟩:=h.2 (by omega)
 refine ⟨ad,rfl,hb,fun j u hu =>hcell j u ?_⟩
 rw [List.getElem?_take] at hu
 split at hu
 ·exact hu
 ·cases hu
theorem zAD.of_own {base:Nat} {e:TypeId} {c:Nat} (h:w.ownsRow base e size (.slice A n c) n xs):zAD w w.heap.size size A n xs:=by
 refine ⟨h.1,fun hn =>?_⟩
 obtain ⟨g,cap,hv,_,hlt⟩:=h.form hn
 have hA:A=some ⟨g,0,none⟩:=by injection hv
 subst hA
 exact ⟨_,rfl,hlt,h.cells (g:=g) rfl⟩
end
theorem zBF {w:World} {base n:Nat} {e:TypeId} {v:Value} {xs:List Value} (h:w.ownsRow base e 1 v n xs):∃ A c,v=.slice A n c∧n≤c∧zAD w w.heap.size 1 A n xs:=by
 obtain ⟨h1,⟨rfl,rfl⟩ | ⟨g,cap,cur,rfl,hb,hg,hn,hm,hs,hx⟩⟩:=h
 ·exact ⟨none,0,rfl,Nat.le_refl _,by simpa using h1,fun h =>absurd h (by omega)⟩
 ·exact ⟨_,_,rfl,hn,zAD.of_own ⟨h1,.inr ⟨g,cap,cur,rfl,hb,hg,hn,hm,hs,hx⟩⟩⟩
def bv (c:UInt8):Value:=.int .u8 (c.toNat:Int)
theorem zCW (bs:List UInt8):∀ u ∈ bs.map bv,u.oneCell'=true:=by
 intro u hu
 obtain ⟨c,_,rfl⟩:=List.mem_map.1 hu
 rfl
theorem zDc {P:Program} (w:World) {ops:Array Oper} {rest:List Oper} {o:Oper} {a:Act} {Q:Exit→Act→World→Prop}
  (hg:o.guard=none) (l c:Operand) (t:TypeId) (hop:o.op=Op.makeSlice t l c)
  (e:TypeId) (i:TypeInfo) (z:Value) (h1:P.underlying t=some (.slice e)) (h2:P.info? e=some i) (h3:i.zero=some z) (h4:i.size=1)
  (kl kc:IntKind) (L C:Int) (m n:Nat) (hl:a.eval l=.int kl L) (hc:a.eval c=.int kc C) (hL:L=(m:Int)) (hC:C=(n:Int)) (hmn:m≤n) (b2:i.bytes * n≤281474976710656) (b3:n≤maxLen)
  (hK:∀ Z:List Value,Hid (Z.length=n)→Hid (Z.toArray=madeCells z.cells n)→wpList P ops Q rest (a.put o.dst (.slice (some ⟨w.heap.size,0,none⟩) m n)) (w.alloc (.cells Z.toArray e))) :
  wpList P ops Q (o :: rest) a w:=by
 refine wpList_plain hg fun K hK' =>?_
 have hK1:=hK (madeCells z.cells n).toList (by have:=size_madeCells z.cells n;simpa [Hid] using this) (by simp [Hid])
 have h63':(n:Int)≤9223372036854775807:=by
  have h:=b3
  simp [maxLen] at h
  omega
 have hb':(i.bytes:Int) * (n:Int)≤281474976710656:=by
  have h:((i.bytes * n:Nat):Int)≤281474976710656:=by omega
  rwa [Int.natCast_mul] at h
 have hr:=run_make (P:=P) w t e i z h1 h2 h3 kl kc m n (by omega) (by omega) hb' h63'
 simp only [Int.toNat_natCast,h4,Nat.mul_one] at hr
 subst hL
 subst hC
 unfold Oper.wp
 simp [execOp,hop,hl,hc,hr,Result.andThen]
 exact hK' _ _ (by simpa using hK1)
theorem zCG (w:World) (g:Nat) (cs:Array Value):w.grownBy (w.setRow g cs) (some g) :=
 ⟨rfl,rfl,rfl,by simp [World.setRow],fun k _ hne =>setRow_other w g k cs (fun e =>hne (by rw [e]))⟩
theorem zIE {P:Program} {w:World} {ops:Array Oper} {rest:List Oper} {o:Oper} {a:Act} {Q:Exit→Act→World→Prop} (hgd:o.guard=none) (d s:Operand) (dT sT:TypeId)
  (ho:o.op=.call { callee:=.builtin .copy,args:=#[d,s],argTypes:=#[dT,sT] }) (elem:TypeId) (hu:P.underlying dT=some (.slice elem)) (hsz:(P.info? elem).map (·.size)=some 1)
  (A:Option Addr) (dLen dCap sLen sCap:Nat) (g off:Nat) (hd:a.eval d=.slice (some ⟨g,off,none⟩) dLen dCap) (hs:a.eval s=.slice A sLen sCap)
  (cur:List Value) (t:TypeId) (hg:w.heap[g]? = some (.cells cur.toArray t (0,0))) (cs:List Value) (B:Nat) (hr:zAD w B 1 A sLen cs) (hle:sLen≤dLen)
  (hfit:off+sLen≤cur.length) (h1:∀ v ∈ cs,v.oneCell'=true)
  (h:∀ w',Hid (w'.heap[g]? = some (.cells (splice cur off cs).toArray t (0,0)))→w.grownBy w' (some g)→wpList P ops Q rest (a.put o.dst (goInt sLen)) w') :
  wpList P ops Q (o :: rest) a w:=by
 have hcl:cs.length=sLen:=by have:=hr.1;omega
 by_cases h0:sLen=0
 ·subst h0
  obtain rfl:cs=[]:=List.eq_nil_of_length_eq_zero hcl
  refine wpList_copy_nothing hgd d s dT sT ho elem hu hsz (some ⟨g,off,none⟩) A dLen dCap 0 sCap hd hs (Nat.min_eq_left (Nat.zero_le _)) ?_
  exact h w (show _=_ by simpa [splice] using hg) (World.grownBy.refl w _)
 ·obtain ⟨ad,rfl,_,hc⟩:=hr.2 (by omega)
  refine wpList_copy_own hgd d s dT sT ho elem hu hsz g off dLen dCap ad sLen sCap hd hs cur.toArray t hg cs (by rw [hcl];exact (Nat.min_eq_left hle).symm) hc (by simpa [hcl] using hfit) h1 ?_
  have:=h _ (show _=_ by simpa [splice] using setRow_heap w g _ _ t _ hg) (zCG w g ((cur.take off++(cs++cur.drop (off+cs.length))).toArray))
  rw [hcl] at *
  simpa [hcl] using this
theorem zBO {w:World} {base g cap n:Nat} {e:TypeId} {cs:List Value} {xs:List Value} (hb:base≤g) (hg:w.heap[g]? = some (.cells cs.toArray e (0,0))) (hn:n≤cap) (hm:cap≤maxLen) (hs:cs.length=cap) (hx:cs.take n=xs) :
  w.ownsRow base e 1 (.slice (some ⟨g,0,none⟩) n cap) n xs :=
 ⟨by rw [← hx,List.length_take];omega,.inr ⟨g,cap,cs.toArray,rfl,hb,hg,hn,hm,by simpa using hs,by simpa using hx⟩⟩
def tx (bs:List UInt8):ByteArray:=⟨bs.toArray⟩
theorem zBd (a:List UInt8):(tx a).toList=a:=by rw [ByteArray.toList_eq];simp [tx]
theorem zDb (a:List UInt8):(tx a).size=a.length:=by simp [tx,ByteArray.size]
theorem zBV {P:Program} {w:World} {src dst e:TypeId} {A:Option Addr} {n c B:Nat} {bs:List UInt8} (hs:P.underlying src=some (.slice e)) (he:P.underlying e=some (.int .u8)) (hd:P.underlying dst=some .string)
  (hr:zAD w B 1 A n (bs.map bv)):(convert src dst (.slice A n c)).run P w=.ok (.string (tx bs)) w:=by
 have hl:bs.length=n:=by have:=hr.1;simpa using this
 subst hl
 rcases A with _ | a
 ·have h0:bs.length=0:=by
   rcases Nat.eq_zero_or_pos bs.length with h0 | h0
   ·exact h0
   ·obtain ⟨ad,h,_⟩:=hr.2 h0
    cases h
  have hb:bs=[]:=List.eq_nil_of_length_eq_zero h0
  subst hb
  rw [run_convert_bytes_string w src dst e none _ c hs he hd]
  rfl
 ·refine run_convert_bytes_back w src dst e a c bs hs he hd (fun j hj =>?_)
  obtain ⟨ad,h,_,hc⟩:=hr.2 (by omega)
  cases h
  exact hc j _ (by simp [hj,bv])
theorem zJH {n:Nat} (h:n<256):bv (UInt8.ofNat n)=.int .u8 (n:Int):=by
 have:(UInt8.ofNat n).toNat=n:=by simp;omega
 unfold bv
 rw [this]
def top:Nat:=18446744073709551616
def vb (n:Nat):List UInt8:=if n<128 then [UInt8.ofNat n] else UInt8.ofNat (n % 128+128) :: vb (n / 128)
termination_by n
decreasing_by omega
theorem zFU {n:Nat} (h:n<128):vb n=[UInt8.ofNat n]:=by rw [vb,if_pos h]
theorem zGR {n:Nat} (h:128≤n):vb n=UInt8.ofNat (n % 128+128) :: vb (n / 128):=by rw [vb,if_neg (by omega)]
theorem zHf (n:Nat):0<(vb n).length:=by
 by_cases h:n<128
 ·rw [zFU h];simp
 ·rw [zGR (by omega)];simp
theorem zHe:∀ (k n:Nat),n<128 ^ (k+1)→(vb n).length≤k+1
 | 0,n,h =>by rw [zFU (by simpa using h)];simp
 | k+1,n,h =>by
  by_cases h1:n<128
  ·rw [zFU h1];simp
  ·rw [zGR (by omega)]
   have:n / 128<128 ^ (k+1):=by
    rw [Nat.pow_succ] at h
    exact Nat.div_lt_of_lt_mul (by rw [Nat.mul_comm];exact h)
   have:=zHe k (n / 128) this
   simp;omega
theorem zBQ (n:Nat) (h:n<top):(vb n).length≤10 :=
 zHe 9 n (by unfold top at h;have:(128:Nat) ^ (9+1)=1180591620717411303424:=(by decide);omega)
theorem zER (n:Nat) (h:n<256):(UInt8.ofNat n).toNat=n:=by
 simp;omega
theorem zRp (n:Nat):(UInt8.ofNat (n % 128+128)).toNat=n % 128+128:=zER _ (by omega)
def gr (i acc:Nat):List UInt8→Nat×Nat×Nat
 | [] =>(0,0,2)
 | c :: l =>
  if ¬ (i=9∧1<c.toNat)∧(i=0∨c.toNat≠0) then
   if c.toNat<128 then (acc+c.toNat * 128 ^ i,i+1,0) else gr (i+1) (acc+c.toNat % 128 * 128 ^ i) l
  else (0,0,3)
theorem zJT {i acc:Nat} {c:UInt8} {l:List UInt8} (h:¬ (¬ (i=9∧1<c.toNat)∧(i=0∨c.toNat≠0))):gr i acc (c :: l)=(0,0,3):=by rw [gr,if_neg h]
theorem zGI {i acc:Nat} {c:UInt8} {l:List UInt8} (h:¬ (i=9∧1<c.toNat)∧(i=0∨c.toNat≠0)) (h1:c.toNat<128):gr i acc (c :: l)=(acc+c.toNat * 128 ^ i,i+1,0):=by rw [gr,if_pos h,if_pos h1]
theorem zHN {i acc:Nat} {c:UInt8} {l:List UInt8} (h:¬ (i=9∧1<c.toNat)∧(i=0∨c.toNat≠0)) (h1:¬ c.toNat<128):gr i acc (c :: l)=gr (i+1) (acc+c.toNat % 128 * 128 ^ i) l:=by rw [gr,if_pos h,if_neg h1]
open Go.ChangeShapes Go.WideShapes Go.ChangeAt Go.RowKit
theorem zHm {w:World} {p:Addr} {v:Value} (h:w.cell? p=some v):p.block<w.heap.size:=by
 rcases Nat.lt_or_ge p.block w.heap.size with hlt | hge
 ·exact hlt
 ·rw [World.cell?,Array.getElem?_eq_none hge] at h
  cases h
theorem zAG {w:World} {base n size:Nat} {e:TypeId} {v:Value} {xs:List Value} (h:w.ownsRow base e size v n xs):∀ k,v.ownBlock=some k→base≤k:=by
 intro k hk
 obtain ⟨_,⟨rfl,_⟩ | ⟨g,cap,cur,rfl,hb,_⟩⟩:=h
 ·simp [Value.ownBlock] at hk
 ·simp [Value.ownBlock] at hk;omega
theorem zAK {w w':World} {base n size:Nat} {e:TypeId} {v:Value} {xs:List Value} (h:w.ownsRow base e size v n xs) (hb:Below w.heap.size w w'):w'.ownsRow base e size v n xs:=by
 obtain ⟨h1,h2 | ⟨g,cap,cur,hv,hbg,hg,r⟩⟩:=h
 ·exact ⟨h1,.inl h2⟩
 ·have hlt:g<w.heap.size:=by
   rcases Nat.lt_or_ge g w.heap.size with hlt | hge
   ·exact hlt
   ·rw [Array.getElem?_eq_none hge] at hg;cases hg
  exact ⟨h1,.inr ⟨g,cap,cur,hv,hbg,by rw [hb.block g hlt];exact hg,r⟩⟩
theorem zId (w:World) (e:TypeId):(w.alloc (.cells #[] e)).ownsRow w.heap.size e 1 (.slice (some ⟨w.heap.size,0,none⟩) 0 0) 0 [] :=
 ⟨rfl,.inr ⟨w.heap.size,0,#[],rfl,Nat.le_refl _,by show (w.heap.push _)[w.heap.size]? = _;simp,Nat.le_refl _,by unfold maxLen;omega,rfl,rfl⟩⟩
theorem zBT {P:Program} (w:World) {ops:Array Oper} {rest:List Oper} {o:Oper} {a:Act} {Q:Exit→Act→World→Prop} (hgd:o.guard=none) (s x:Operand) (t:TypeId)
  (ho:o.op=.call { callee:=.builtin .append,args:=#[s,x],argTypes:=#[t,t] })
  (base:Nat) (e:TypeId) (i:TypeInfo) (z:Value) (bytes:Nat) (ht:P.underlying t=some (.slice e)) (hi:P.info? e=some i) (hz:i.zero=some z)
  (hsize:i.size=1) (hby:i.bytes=bytes) (hzs:z.cells.size=1)
  (v:Value) (n:Nat) (xs:List Value) (hs:a.eval s=v) (hown:w.ownsRow base e 1 v n xs)
  (A:Option Addr) (m c B:Nat) (news:List Value) (hx:a.eval x=.slice A m c) (hA:A=none→c=0) (hr:zAD w B 1 A m news) (h1:∀ u ∈ news,u.oneCell'=true)
  (h63:n+m≤maxLen) (hbytes:(n+m) * bytes≤140737488355328) (hbase:base≤w.heap.size)
  (h:∀ v' w',w'.ownsRow base e 1 v' (n+m) (xs++news)→w.grownBy w' v.ownBlock→wpList P ops Q rest (a.put o.dst v') w'):wpList P ops Q (o :: rest) a w:=by
 cases A with
 | none =>
  have hm:m=0:=by
   rcases Nat.eq_zero_or_pos m with h0 | h0
   ·exact h0
   ·obtain ⟨ad,e,_⟩:=hr.2 h0
    cases e
  subst hm
  have hc:=hA rfl
  subst hc
  have hnews:news=[]:=List.eq_nil_of_length_eq_zero (by have:=hr.1;simpa using this)
  subst hnews
  exact wpList_append_own_none hgd s x t ho base e i 1 ht hi v n xs hs hown hx (h v w (by simpa using hown) (World.grownBy.refl w _))
 | some ad =>
  refine wpList_append_own w hgd s x t ho base e i z 1 bytes ht hi hz hsize hby hzs (by decide) v n xs hs hown ad m c news hx hr.1 ?_ h1 h63 hbytes hbase (fun v' w' a b _ =>h v' w' a b)
  intro j u hu
  by_cases h0:0<m
  ·obtain ⟨ad',e,_,hc⟩:=hr.2 h0
   cases e
   exact hc j u hu
  ·have hl:=hr.1
   have:=(List.getElem?_eq_some_iff.1 hu).1
   omega
def zDd (u v:Value):Prop:=∀ g,u.ownBlock=some g→v.ownBlock≠some g
theorem zDd.symm {u v:Value} (h:zDd u v):zDd v u:=fun g h1 h2 =>h g h2 h1
section
variable {w w':World} {base n m k cap g size:Nat} {e:TypeId} {vb vc:Value} {xs:List Value}
theorem zAP (h:w.ownsRow base e size vc n xs):∀ g,vc.ownBlock=some g→g<w.heap.size:=by
 intro g hg
 obtain ⟨_,⟨rfl,_⟩ | ⟨g',cap,cur,rfl,_,hh,_⟩⟩:=h
 ·simp [Value.ownBlock] at hg
 ·have e:g'=g:=by simpa [Value.ownBlock] using hg
  subst e
  rcases Nat.lt_or_ge g' w.heap.size with hlt | hge
  ·exact hlt
  ·rw [Array.getElem?_eq_none hge] at hh;cases hh
theorem zBL (hc:w.ownsRow base e size vc n xs) (h:zDd vb vc) (hg:w.grownBy w' vb.ownBlock):w'.ownsRow base e size vc n xs:=by
 refine hc.kept hg ?_
 cases hv:vc.ownBlock with
 | none =>exact .inl rfl
 | some g =>exact .inr (fun h2 =>h g h2.symm hv)
end
theorem zLO (c:UInt8):UInt8.ofNat c.toNat=c:=by simp
theorem zQV:∀ (ys:List UInt8) (i a n k:Nat),i≤9→gr i a ys=(n,k,0) →
  ∃ m j,n=a+m * 128 ^ i∧k=i+j∧1≤j∧j≤ys.length∧vb m=ys.take j∧(i=0∨m≠0)∧(m+1) * 128 ^ i≤top
 | [],i,a,n,k,_,h =>by rw [gr] at h;simp at h
 | c :: l,i,a,n,k,hi,h =>by
  by_cases hok:¬ (i=9∧1<c.toNat)∧(i=0∨c.toNat≠0)
  ·by_cases h128:c.toNat<128
   ·rw [zGI hok h128] at h
    simp only [Prod.mk.injEq] at h
    refine ⟨c.toNat,1,h.1.symm,h.2.1.symm,Nat.le_refl _,by simp,?_,hok.2,?_⟩
    ·rw [zFU h128,zLO];simp
    ·by_cases h9:i=9
     ·subst h9
      have h1:c.toNat≤1:=by have:=hok.1;omega
      have h2:(c.toNat+1) * 128 ^ 9≤2 * 128 ^ 9:=Nat.mul_le_mul_right _ (by omega)
      unfold top;omega
     ·have h1:128 ^ i≤128 ^ 8:=Nat.pow_le_pow_right (by omega) (by omega)
      have h2:(c.toNat+1) * 128 ^ i≤128 * 128 ^ 8:=Nat.mul_le_mul (by omega) h1
      unfold top;omega
   ·rw [zHN hok h128] at h
    have hi8:i≤8:=by have:=hok.1;omega
    obtain ⟨m,j,hn,hk,hj,hjl,hv,hm,ht⟩:=zQV l (i+1) _ n k (by omega) h
    have hm0:m≠0:=by omega
    have hc:=c.toNat_lt
    refine ⟨c.toNat % 128+128 * m,j+1,?_,by omega,by omega,by simpa using hjl,?_,.inr (by omega),?_⟩
    ·rw [hn,Nat.pow_succ,Nat.add_mul]
     have:128 * m * 128 ^ i=m * (128 ^ i * 128):=by rw [Nat.mul_comm 128 m,Nat.mul_assoc,Nat.mul_comm 128]
     omega
    ·rw [zGR (by omega)]
     have e1:(c.toNat % 128+128 * m) / 128=m:=by omega
     have e2:(c.toNat % 128+128 * m) % 128+128=c.toNat:=by omega
     rw [e1,e2,zLO,hv]
     simp
    ·rw [Nat.pow_succ] at ht
     have h1:(c.toNat % 128+128 * m+1) * 128 ^ i≤(128 * (m+1)) * 128 ^ i:=Nat.mul_le_mul_right _ (by omega)
     have h2:(128 * (m+1)) * 128 ^ i=(m+1) * (128 ^ i * 128):=by rw [Nat.mul_comm 128 (m+1),Nat.mul_assoc,Nat.mul_comm 128]
     omega
  ·rw [zJT hok] at h;simp at h
theorem zDW:∀ (ys:List UInt8) (i a:Nat),gr i a ys=(0,0,2)∨gr i a ys=(0,0,3) ∨ ∃ n k,gr i a ys=(n,k,0)
 | [],i,a =>.inl (by rw [gr])
 | c :: l,i,a =>by
  by_cases hok:¬ (i=9∧1<c.toNat)∧(i=0∨c.toNat≠0)
  ·by_cases h128:c.toNat<128
   ·exact .inr (.inr ⟨_,_,zGI hok h128⟩)
   ·rw [zHN hok h128]
    exact zDW l (i+1) _
  ·exact .inr (.inl (zJT hok))
theorem zHM {ys:List UInt8} {n k:Nat} (h:gr 0 0 ys=(n,k,0)):n<top∧1≤k∧k≤ys.length∧vb n=ys.take k:=by
 obtain ⟨m,j,hn,hk,h1,h2,h3,_,h4⟩:=zQV ys 0 0 n k (by omega) h
 have e:m=n:=by simpa using hn.symm
 have e2:j=k:=by omega
 subst e;subst e2
 exact ⟨by have:(m+1) * 128 ^ 0=m+1:=(by simp);omega,h1,h2,h3⟩
theorem zRA (tail:List UInt8):∀ (m i a:Nat),i≤9→(i=0∨m≠0)→(m+1) * 128 ^ i≤top→gr i a (vb m++tail)=(a+m * 128 ^ i,i+(vb m).length,0):=by
 intro m
 induction m using Nat.strongRecOn with
 | ind m ih =>
  intro i a hi hm ht
  by_cases h1:m<128
  ·rw [zFU h1]
   have e:(UInt8.ofNat m).toNat=m:=zER m (by omega)
   show gr i a (UInt8.ofNat m :: tail)=_
   rw [zGI (by
    rw [e]
    refine ⟨fun h =>?_,hm⟩
    obtain ⟨rfl,h2⟩:=h
    have h3:3 * 128 ^ 9≤(m+1) * 128 ^ 9:=Nat.mul_le_mul_right _ (by omega)
    unfold top at ht;omega) (by rw [e];exact h1),e]
   simp
  ·rw [zGR (by omega)]
   have e:(UInt8.ofNat (m % 128+128)).toNat=m % 128+128:=zER _ (by omega)
   show gr i a (UInt8.ofNat (m % 128+128) :: (vb (m / 128)++tail))=_
   have hi8:i≤8:=by
    rcases Nat.lt_or_ge i 9 with h | h
    ·omega
    ·have:i=9:=by omega
     subst this
     have h3:3 * 128 ^ 9≤(m+1) * 128 ^ 9:=Nat.mul_le_mul_right _ (by omega)
     unfold top at ht;omega
   rw [zHN (by rw [e];omega) (by rw [e];omega),e]
   have hp:(m / 128+1) * 128 ^ (i+1)≤top:=by
    by_cases h8:i=8
    ·subst h8
     have h4:(m+1) * 128 ^ 8≤top:=ht
     have h5:m+1≤256:=by
      rcases Nat.lt_or_ge 256 (m+1) with h | h
      ·have h6:257 * 128 ^ 8≤(m+1) * 128 ^ 8:=Nat.mul_le_mul_right _ (by omega)
       unfold top at h4;omega
      ·exact h
     have h7:m / 128+1≤2:=by omega
     have h8:(m / 128+1) * 128 ^ 9≤2 * 128 ^ 9:=Nat.mul_le_mul_right _ h7
     unfold top;omega
    ·-- 128^(9) divides top: so does the power
     obtain ⟨d,hd⟩:∃ d,9=i+1+d:=⟨9 - (i+1),by omega⟩
     have htop:top=2 * 128 ^ d * 128 ^ (i+1):=by
      have:(128:Nat) ^ 9=128 ^ (i+1) * 128 ^ d:=by rw [hd,Nat.pow_add]
      have h9:top=2 * 128 ^ 9:=by unfold top;omega
      rw [h9,this,Nat.mul_assoc,Nat.mul_comm (128 ^ d)]
     have hm1:m+1≤2 * 128 ^ d * 128:=by
      rw [htop,Nat.pow_succ,← Nat.mul_assoc,Nat.mul_right_comm] at ht
      exact Nat.le_of_mul_le_mul_right ht (Nat.pow_pos (by omega))
     rw [htop]
     exact Nat.mul_le_mul_right _ (by omega)
   rw [ih (m / 128) (by omega) (i+1) _ (by omega) (.inr (by omega)) hp]
   have e3:m=m % 128+128 * (m / 128):=by omega
   have e4:a+(m % 128+128) % 128 * 128 ^ i+m / 128 * 128 ^ (i+1)=a+m * 128 ^ i:=by
    have e5:(m % 128+128) % 128=m % 128:=by omega
    rw [e5,Nat.pow_succ]
    have e6:m / 128 * (128 ^ i * 128)=128 * (m / 128) * 128 ^ i:=by rw [Nat.mul_comm (128 ^ i),← Nat.mul_assoc,Nat.mul_comm 128]
    rw [e6,Nat.add_assoc,← Nat.add_mul]
    exact congrArg (fun z =>a+z * 128 ^ i) e3.symm
   rw [e4]
   simp;omega
theorem zGe (tail:List UInt8) (n:Nat) (h:n<top):gr 0 0 (vb n++tail)=(n,(vb n).length,0):=by
 rw [zRA tail n 0 0 (by omega) (.inl rfl) (by simp;omega)]
 simp
theorem zSH:∀ (m i a j:Nat),i≤9→(i=0∨m≠0)→(vb m).length+i≤10→j<(vb m).length→gr i a ((vb m).take j)=(0,0,2):=by
 intro m
 induction m using Nat.strongRecOn with
 | ind m ih =>
  intro i a j hi hm hl hj
  cases j with
  | zero =>rw [List.take_zero,gr]
  | succ j =>
   by_cases h1:m<128
   ·rw [zFU h1] at hj;simp at hj
   ·rw [zGR (by omega)] at hj hl ⊢
    have e:(UInt8.ofNat (m % 128+128)).toNat=m % 128+128:=zER _ (by omega)
    simp only [List.length_cons] at hj hl
    have:=zHf (m / 128)
    rw [List.take_succ_cons,zHN (by rw [e];omega) (by rw [e];omega)]
    exact ih (m / 128) (by omega) (i+1) _ j (by omega) (.inr (by omega)) (by omega) (by omega)
theorem zQz (n j:Nat) (h:n<top) (hj:j<(vb n).length):gr 0 0 ((vb n).take j)=(0,0,2) :=
 zSH n 0 0 j (by omega) (.inl rfl) (by have:=zBQ n h;omega) hj
def lay:List Nat→List UInt8
 | [] =>[]
 | n :: l =>vb n++lay l
def blob (t:List UInt8):List UInt8:=vb t.length++t
def zBG:List (List UInt8)→List UInt8
 | [] =>[]
 | t :: l =>blob t++zBG l
theorem zDV (t:List UInt8):(blob t).length=(vb t.length).length+t.length:=by simp [blob]
theorem zFd (a b:List (List UInt8)):zBG (a++b)=zBG a++zBG b:=by
 induction a with
 | nil =>rfl
 | cons n a ih =>simp [zBG,ih]
theorem zLX {ts:List (List UInt8)} {i:Nat} {x:List UInt8} (h:ts[i]? = some x):zBG (ts.take (i+1))=zBG (ts.take i)++blob x:=by
 obtain ⟨hlt,rfl⟩:=List.getElem?_eq_some_iff.1 h
 rw [List.take_succ_eq_append_getElem hlt,zFd]
 simp [zBG]
theorem zKM {ts:List (List UInt8)} {i:Nat} {x:List UInt8} (h:ts[i]? = some x):zBG ts=zBG (ts.take i)++(blob x++zBG (ts.drop (i+1))):=by
 obtain ⟨hlt,rfl⟩:=List.getElem?_eq_some_iff.1 h
 have h1:zBG (ts.take i++ts.drop i)=zBG (ts.take i)++zBG (ts.drop i):=zFd _ _
 rw [List.take_append_drop] at h1
 rw [h1,List.drop_eq_getElem_cons hlt,zBG]
theorem zJF {ts:List (List UInt8)} {i:Nat} {x:List UInt8} (h:ts[i]? = some x):(zBG (ts.take i)).length+(blob x).length≤(zBG ts).length:=by
 rw [zKM h];simp
def bg (most:Int) (at_:Nat) (bs:List UInt8):List UInt8×Nat×Nat :=
 let r:=gr 0 0 (bs.drop at_)
 if r.2.2≠0 then ([],0,r.2.2)
 else if max most 0<(r.1:Int) then ([],0,5)
 else if bs.length - (at_+r.2.1)<r.1 then ([],0,2)
 else ((bs.drop (at_+r.2.1)).take r.1,at_+r.2.1+r.1,0)
theorem zDl {most:Int} {at_ n k e:Nat} {bs:List UInt8} (h:gr 0 0 (bs.drop at_)=(n,k,e)) (he:e≠0):bg most at_ bs=([],0,e):=by
 simp [bg,h,he]
theorem zEu {most:Int} {at_ n k:Nat} {bs:List UInt8} (h:gr 0 0 (bs.drop at_)=(n,k,0)) (hl:max most 0<(n:Int)):bg most at_ bs=([],0,5):=by
 simp only [bg,h,ne_eq,not_true_eq_false,if_false,if_pos hl]
theorem zEH {most:Int} {at_ n k:Nat} {bs:List UInt8} (h:gr 0 0 (bs.drop at_)=(n,k,0)) (hl:¬ max most 0<(n:Int)) (hs:bs.length - (at_+k)<n):bg most at_ bs=([],0,2):=by
 simp only [bg,h,ne_eq,not_true_eq_false,if_false,if_neg hl,if_pos hs]
theorem zGz {most:Int} {at_ n k:Nat} {bs:List UInt8} (h:gr 0 0 (bs.drop at_)=(n,k,0)) (hl:¬ max most 0<(n:Int)) (hs:¬ bs.length - (at_+k)<n):bg most at_ bs=((bs.drop (at_+k)).take n,at_+k+n,0):=by
 simp only [bg,h,ne_eq,not_true_eq_false,if_false,if_neg hl,if_neg hs]
theorem zHl (most:Int) (pre t tail:List UInt8) (ht:t.length<top) (hm:(t.length:Int)≤max most 0):bg most pre.length (pre++(blob t++tail))=(t,pre.length+(blob t).length,0):=by
 have h0:(pre++(blob t++tail)).drop pre.length=vb t.length++(t++tail):=by simp [blob]
 have h1:gr 0 0 ((pre++(blob t++tail)).drop pre.length)=(t.length,(vb t.length).length,0):=by rw [h0];exact zGe _ _ ht
 rw [zGz h1 (by omega) (by simp [blob];omega)]
 have h2:(pre++(blob t++tail)).drop (pre.length+(vb t.length).length)=t++tail:=by
  rw [← List.drop_drop,h0];simp
 rw [h2,zDV]
 simp [Nat.add_assoc]
theorem zRw (most:Int) (pre t:List UInt8) (j:Nat) (ht:t.length<top) (hm:(t.length:Int)≤max most 0) (hj:j<(blob t).length):bg most pre.length (pre++(blob t).take j)=([],0,2):=by
 have h0:(pre++(blob t).take j).drop pre.length=(blob t).take j:=by simp
 rw [zDV] at hj
 rcases Nat.lt_or_ge j (vb t.length).length with h | h
 ·have h1:gr 0 0 ((pre++(blob t).take j).drop pre.length)=(0,0,2):=by
   rw [h0,blob,List.take_append_of_le_length (by omega)]
   exact zQz _ _ ht h
  exact zDl h1 (by decide)
 ·have h1:gr 0 0 ((pre++(blob t).take j).drop pre.length)=(t.length,(vb t.length).length,0):=by
   rw [h0,blob,List.take_append,List.take_of_length_le (by omega)]
   exact zGe _ _ ht
  refine zEH h1 (by omega) ?_
  have:((blob t).take j).length=j:=by rw [List.length_take,zDV];omega
  rw [List.length_append,this]
  omega
theorem zJB {most:Int} {at_ nx:Nat} {bs s:List UInt8} (h:bg most at_ bs=(s,nx,0)):at_<nx∧nx≤bs.length∧blob s=(bs.drop at_).take (nx - at_):=by
 rcases hg:gr 0 0 (bs.drop at_) with ⟨n,k,e⟩
 by_cases he:e=0
 ·subst he
  by_cases hl:max most 0<(n:Int)
  ·rw [zEu hg hl] at h;simp at h
  ·by_cases hs:bs.length - (at_+k)<n
   ·rw [zEH hg hl hs] at h;simp at h
   ·rw [zGz hg hl hs] at h
    obtain ⟨_,hk1,hk2,hv⟩:=zHM hg
    rw [List.length_drop] at hk2
    simp only [Prod.mk.injEq,and_true] at h
    obtain ⟨rfl,rfl⟩:=h
    refine ⟨by omega,by omega,?_⟩
    have hlen:((bs.drop (at_+k)).take n).length=n:=by rw [List.length_take,List.length_drop];omega
    rw [blob,hlen,hv]
    have e1:at_+k+n - at_=k+n:=by omega
    rw [e1,List.take_add,List.drop_drop]
 ·rw [zDl hg he] at h
  simp only [Prod.mk.injEq] at h
  exact absurd h.2.2 he
theorem zHk {most:Int} {at_:Nat} {bs:List UInt8}:bg most at_ bs=([],0,2)∨bg most at_ bs=([],0,3)∨bg most at_ bs=([],0,5) ∨ ∃ s nx,bg most at_ bs=(s,nx,0):=by
 rcases zDW (bs.drop at_) 0 0 with h | h | ⟨n,k,h⟩
 ·exact .inl (zDl h (by decide))
 ·exact .inr (.inl (zDl h (by decide)))
 ·by_cases hl:max most 0<(n:Int)
  ·exact .inr (.inr (.inl (zEu h hl)))
  ·by_cases hs:bs.length - (at_+k)<n
   ·exact .inl (zEH h hl hs)
   ·exact .inr (.inr (.inr ⟨_,_,zGz h hl hs⟩))
open Go.RowKit Go.Shelf
attribute [local go_sem] Oper.semAt_some
theorem zSK:(Tryz.prog.info? 5).map (fun i =>(i.zero,i.size,i.bytes))=some (some (.int .u8 0),1,1):=by kernel_rfl
def sv (t:List UInt8):Value:=.string (tx t)
theorem zGX (t:List UInt8):Lib.strCells (tx t)=t.map bv:=by simp [Lib.strCells,tx,bv]
theorem zLe (ad:Addr) (n c B:Nat) (bs:List UInt8) (hn:n≤1073741824) (w:World) (hB:B≤w.heap.size) (hr:zAD w B 1 (some ad) n (bs.map bv)) :
  Calls Tryz.prog 164 #[.slice (some ad) n c] w fun e w' =>∃ v,e=.returned v∧w'.ownsRow w.heap.size 5 1 v n (bs.map bv)∧Below w.heap.size w w':=by
 obtain ⟨i0,hi,hz0,hz1,hz2⟩:=info_parts zSK
 have hown0:(w.alloc (.cells #[] 5)).ownsRow w.heap.size 5 1 (.slice (some ⟨w.heap.size,0,none⟩) 0 0) 0 [] :=
  ⟨rfl,.inr ⟨w.heap.size,0,#[],rfl,Nat.le_refl _,by show (w.heap.push _)[w.heap.size]? = _;simp,Nat.le_refl _,by unfold maxLen;omega,rfl,rfl⟩⟩
 have he:∀ w:World,(binOp .eql 59 (.slice (some ad) n c) (.slice none 0 0)).run Tryz.prog w=.ok (.bool false) w:=fun _ =>rfl
 have hone:=zCW bs
 obtain ⟨xs,hx⟩:∃ xs,xs=bs.map bv:=⟨_,rfl⟩
 rw [← hx] at hr hone ⊢
 clear hx
 go_enter Tryz.func164,Tryz.ntmps164
 go_wp2_with (first
  | (at_builtin;refine wpList_append_own _ rfl (.tmp 5) (.tmp 6) 59 rfl w.heap.size 5 i0 (.int .u8 0) 1 1 Tryz.underlying59 hi hz0 hz1 hz2 rfl (by decide) _ _ _ rfl hown0 ad n c xs rfl hr.1 ?c1 hone (by unfold maxLen;omega) (by omega) (by simp) ?_))
 case c1 =>
  intro j u hu
  have hr':=hr.alloc (o:=.cells #[] 5) (w:=w) hB
  by_cases h0:0<n
  ·obtain ⟨ad',e,_,hc⟩:=hr'.2 h0
   cases e
   exact hc j u hu
  ·have hl:=hr.1
   have:=(List.getElem?_eq_some_iff.1 hu).1
   omega
 intro v' w1 hown' hgrow hnil
 go_wp2
 go_ret
 exact ⟨_,rfl,by simpa using hown',((Below.refl _ _).alloc (Nat.le_refl _) _).grown hgrow (by simp) (fun k hk =>by simp [Value.ownBlock] at hk;omega)⟩
theorem zLd (c:Nat) (w:World) :
  Calls Tryz.prog 164 #[.slice none 0 c] w fun e w' =>e=.returned (.slice none 0 0)∧w=w':=by
 have he:∀ w:World,(binOp .eql 59 (.slice none 0 c) (.slice none 0 0)).run Tryz.prog w=.ok (.bool true) w:=fun _ =>rfl
 go_enter Tryz.func164,Tryz.ntmps164
 go_wp2
 go_ret
 exact ⟨rfl,rfl⟩
theorem zIG (A:Option Addr) (n c B:Nat) (bs:List UInt8) (hn:n≤1073741824) (w:World) (hB:B≤w.heap.size) (hr:zAD w B 1 A n (bs.map bv)) :
  Calls Tryz.prog 164 #[.slice A n c] w fun e w' =>∃ v,e=.returned v∧w'.ownsRow w.heap.size 5 1 v n (bs.map bv)∧Below w.heap.size w w':=by
 cases A with
 | some ad =>exact zLe ad n c B bs hn w hB hr
 | none =>
  have h0:n=0:=by
   rcases Nat.eq_zero_or_pos n with h | h
   ·exact h
   ·obtain ⟨ad,e,_⟩:=hr.2 h
    cases e
  subst h0
  have hb:bs=[]:=List.eq_nil_of_length_eq_zero (by have:=hr.1;simpa using this)
  subst hb
  refine (zLd c w).mono ?_
  rintro e w' ⟨rfl,rfl⟩
  exact ⟨_,rfl,⟨rfl,.inl ⟨rfl,rfl⟩⟩,Below.refl _ _⟩
theorem zRk {ts:List (List UInt8)} {i:Nat} {u:Value} (h:(ts.map sv)[i]? = some u):∃ x,u=.string (tx x)∧ts[i]? = some x:=by
 rw [List.getElem?_map] at h
 obtain ⟨x,hx,rfl⟩:=Option.map_eq_some_iff.1 h
 exact ⟨x,rfl,hx⟩
theorem zMC (W:World) (e:TypeId) (t:List UInt8):zAD (W.alloc (.cells #[sv t] e)) (W.heap.size+1) 1 (some ⟨W.heap.size,0,none⟩) 1 ([t].map sv) :=
 ⟨rfl,fun _ =>⟨_,rfl,by simp,fun j u hu =>by
  cases j with
  | zero =>
   have hu':sv t=u:=by simpa using hu
   subst hu'
   simp [Addr.add]
  | succ j =>simp at hu⟩⟩
variable {P:Program} {md:Region.Mode} {ops:Array Oper} {Q:Exit→Act→World→Prop} {S:World→Prop}
theorem zAB (i:Nat) (v:Value) {oi:Oper} {fuel:Nat} {listed:Array Bool} {a:Act} {w:World} (hi:ops[i]? = some oi)
  (hs:Region.noSelect ops=true) (hf:Region.free md ops listed i=true) (hr:(Region.ready md ops listed).contains i=true)
  (hQ:∀ c a w,Q (.panic c) (a.put oi.dst v) w→Q (.panic c) a w) (hw:Region.wanted oi (yielded ops a.tmps)=true) (hS:S w)
  (hy:∀ w,S w→(execOp a.eval oi).run P w=.ok (.value v) w)
  (h:wpAnyH P md ops Q S fuel (listed.setIfInBounds i true) (a.put oi.dst v) w):wpAnyH P md ops Q S (fuel+1) listed a w :=
 wpAnyH_take hi hs hf hr hQ (.inl ⟨hw,hy⟩) hS h
theorem zAX (i:Nat) {oi:Oper} {fuel:Nat} {listed:Array Bool} {a:Act} {w:World} (hi:ops[i]? = some oi)
  (hs:Region.noSelect ops=true) (hf:Region.free md ops listed i=true) (hr:(Region.ready md ops listed).contains i=true)
  (hQ:∀ c a w,Q (.panic c) (a.put oi.dst undef) w→Q (.panic c) a w) (hw:Region.wanted oi (yielded ops a.tmps)=false) (hS:S w)
  (h:wpAnyH P md ops Q S fuel (listed.setIfInBounds i true) (a.put oi.dst undef) w):wpAnyH P md ops Q S (fuel+1) listed a w :=
 wpAnyH_take hi hs hf hr hQ (.inr ⟨hw,rfl⟩) hS h
theorem zAO (i:Nat) {oi:Oper} {fuel:Nat} {listed:Array Bool} {a:Act} {w:World} (hi:ops[i]? = some oi)
  (hr:Region.ready md ops listed=[i]) (hw:Region.wanted oi (yielded ops a.tmps)=true)
  (h:∀ K:Act→World→Prop,(∀ a' w',S w'→wpAnyH P md ops Q S fuel (listed.setIfInBounds i true) a' w'→K a' w')→oi.wp P a w K Q):wpAnyH P md ops Q S (fuel+1) listed a w:=by
 refine wpAnyH_all hr (by simp) (fun j hj =>?_)
 obtain rfl:j=i:=by simpa using hj
 unfold wpOp
 simp only [hi,hw,if_true]
 exact .inl (h _ fun _ _ h1 h2 =>⟨h1,h2⟩)
end Go.Proofs.YtekchkfjgofnkaaGreatDoor
