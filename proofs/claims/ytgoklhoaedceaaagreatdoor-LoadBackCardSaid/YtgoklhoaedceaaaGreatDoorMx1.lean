/- Texts of one proof. -/
import Derived.Below
import Derived.Deep.AppendLies
import Derived.Deep.Draws
import Derived.Deep.Slices
import Derived.Deep.Strs
import Derived.Laws.AppendOwnNone
import Derived.Laws.BitsAllLaws
import Derived.Laws.BytesArg
import Derived.Laws.Concat
import Derived.Laws.CopyOwn
import Derived.Laws.IdiomStrings
import Derived.Laws.OwnMore
import Derived.Laws.Strings
import Derived.Lib.Hide
import Derived.OpenShut
import Derived.OrdersHeld
import Derived.OwnWalk
import Derived.ProofKit
import Derived.Test.YtgoklhoaedceaaaGreatDoorProg
import Derived.WalkKit
set_option maxRecDepth 100000
set_option maxHeartbeats 8000000
namespace Go.Proofs.YtgoklhoaedceaaaGreatDoor
theorem yh {p:Prop} (h:p):Go.RowKit.Hid p:=h
open Go.RowKit
theorem zAH (a:Addr) (n:Nat):(a.add n).block=a.block:=by unfold Addr.add;split <;> rfl
theorem zBm (a:Addr) (i j:Nat):(a.add i).add j=a.add (i+j):=by
 unfold Addr.add
 by_cases hi:i=0 <;> by_cases hj:j=0 <;> simp [hi,hj,Nat.add_assoc]
def zAE (w:World) (B size:Nat) (A:Option Addr) (n:Nat) (xs:List Value):Prop :=
 xs.length=n * size∧(0<n→∃ ad,A=some ad∧ad.block<B∧∀ j u,xs[j]? = some u→w.cell? (ad.add j)=some u)
section
variable {w w':World} {B B' size n:Nat} {A:Option Addr} {xs:List Value}
theorem zAE.none_:zAE w B size A 0 []:=⟨by simp,fun h =>absurd h (by omega)⟩
theorem zAE.at_ {k:Nat} (h:zAE w B 1 A n xs) (hk:k<n):∃ ad u,A=some ad∧ad.block<B∧xs[k]? = some u∧w.cell? (ad.add k)=some u:=by
 obtain ⟨ad,e,hb,hc⟩:=h.2 (by omega)
 have hl:k<xs.length:=by have:=h.1;omega
 exact ⟨ad,xs[k],e,hb,List.getElem?_eq_getElem hl,hc k _ (List.getElem?_eq_getElem hl)⟩
theorem zAE.keep (h:zAE w B size A n xs) (hk:∀ p:Addr,p.block<B→w'.cell? p=w.cell? p):zAE w' B size A n xs :=
 ⟨h.1,fun hn =>by
  obtain ⟨ad,e,hb,hc⟩:=h.2 hn
  exact ⟨ad,e,hb,fun j u hu =>(hk _ (by rw [zAH];exact hb)).trans (hc j u hu)⟩⟩
theorem zAE.more (h:zAE w B size A n xs) (hB:B≤B'):zAE w B' size A n xs :=
 ⟨h.1,fun hn =>by
  obtain ⟨ad,e,hb,hc⟩:=h.2 hn
  exact ⟨ad,e,by omega,hc⟩⟩
theorem zAE.below (h:zAE w B size A n xs) (hb:Below B w w'):zAE w' B size A n xs:=h.keep fun _ hp =>hb.cell hp
theorem zAE.drew (h:zAE w B size A n xs):zAE w.drew B size A n xs:=h
theorem zAE.drewN (h:zAE w B size A n xs) (k:Nat):zAE (w.drewN k) B size A n xs:=h
theorem zAE.alloc (h:zAE w B size A n xs) (hB:B≤w.heap.size) (o:Obj):zAE (w.alloc o) B size A n xs:=h.keep fun p hp =>World.cell?_alloc_lt w o p (by omega)
theorem zAE.setCell (h:zAE w B size A n xs) {p:Addr} (hB:B≤p.block) (u:Value):zAE (w.setCell p u) B size A n xs :=
 h.keep fun q hq =>World.cell?_setCell_other w p q u (fun e =>by subst e;omega)
theorem zAE.grown (h:zAE w B size A n xs) {row:Option Nat} (hg:w.grownBy w' row) (hB:B≤w.heap.size) (hr:∀ g,row=some g→B≤g):zAE w' B size A n xs :=
 h.keep fun p hp =>World.cell?_of_block (hg.block p.block (by omega) (fun e =>by have:=hr _ e.symm;omega))
theorem zAE.cut (h:zAE w B size A n xs) {k cap:Nat} (hk:k≤n) (hc:n≤cap) :
  zAE w B size (if cap=k then A else A.map (·.add (k * size))) (n - k) (xs.drop (k * size)):=by
 refine ⟨by rw [List.length_drop,h.1,Nat.sub_mul],fun hn =>?_⟩
 obtain ⟨ad,rfl,hb,hcell⟩:=h.2 (by omega)
 rw [if_neg (by omega)]
 refine ⟨ad.add (k * size),rfl,by rw [zAH];exact hb,fun j u hu =>?_⟩
 rw [zBm]
 exact hcell _ u (by rw [← hu,List.getElem?_drop])
theorem zAE.take (h:zAE w B 1 A n xs) {k:Nat} (hk:k≤n):zAE w B 1 A k (xs.take k):=by
 refine ⟨by rw [List.length_take,h.1];omega,fun hn =>?_⟩
 obtain ⟨ad,rfl,hb,hcell⟩:=h.2 (by omega)
 refine ⟨ad,rfl,hb,fun j u hu =>hcell j u ?_⟩
 rw [List.getElem?_take] at hu
 split at hu
 ·exact hu
 ·cases hu
theorem zAE.of_own {base:Nat} {e:TypeId} {c:Nat} (h:w.ownsRow base e size (.slice A n c) n xs):zAE w w.heap.size size A n xs:=by
 refine ⟨h.1,fun hn =>?_⟩
 obtain ⟨g,cap,hv,_,hlt⟩:=h.form hn
 have hA:A=some ⟨g,0,none⟩:=by injection hv
 subst hA
 exact ⟨_,rfl,hlt,h.cells (g:=g) rfl⟩
end
def bv (c:UInt8):Value:=.int .u8 (c.toNat:Int)
theorem zLL (bs:List UInt8):∀ u ∈ bs.map bv,u.oneCell'=true:=by
 intro u hu
 obtain ⟨c,_,rfl⟩:=List.mem_map.1 hu
 rfl
theorem zBG (w:World) (g:Nat) (cs:Array Value):w.grownBy (w.setRow g cs) (some g) :=
 ⟨rfl,rfl,rfl,by simp [World.setRow],fun k _ hne =>setRow_other w g k cs (fun e =>hne (by rw [e]))⟩
theorem zEY {w:World} {base g cap n:Nat} {e:TypeId} {cs:List Value} {xs:List Value} (hb:base≤g) (hg:w.heap[g]? = some (.cells cs.toArray e (0,0))) (hn:n≤cap) (hm:cap≤maxLen) (hs:cs.length=cap) (hx:cs.take n=xs) :
  w.ownsRow base e 1 (.slice (some ⟨g,0,none⟩) n cap) n xs :=
 ⟨by rw [← hx,List.length_take];omega,.inr ⟨g,cap,cs.toArray,rfl,hb,hg,hn,hm,by simpa using hs,by simpa using hx⟩⟩
def top:Nat:=18446744073709551616
def vb (n:Nat):List UInt8:=if n<128 then [UInt8.ofNat n] else UInt8.ofNat (n % 128+128) :: vb (n / 128)
termination_by n
decreasing_by omega
theorem zGn (n:Nat) (h:n<256):(UInt8.ofNat n).toNat=n:=by
 simp;omega
def gr (i acc:Nat):List UInt8→Nat×Nat×Nat
 | [] =>(0,0,2)
 | c :: l =>
  if ¬ (i=9∧1<c.toNat)∧(i=0∨c.toNat≠0) then
   if c.toNat<128 then (acc+c.toNat * 128 ^ i,i+1,0) else gr (i+1) (acc+c.toNat % 128 * 128 ^ i) l
  else (0,0,3)
open Go.ChangeShapes Go.WideShapes Go.ChangeAt Go.RowKit
theorem zHL {w:World} {p:Addr} {v:Value} (h:w.cell? p=some v):p.block<w.heap.size:=by
 rcases Nat.lt_or_ge p.block w.heap.size with hlt | hge
 ·exact hlt
 ·rw [World.cell?,Array.getElem?_eq_none hge] at h
  cases h
def tx (bs:List UInt8):ByteArray:=⟨bs.toArray⟩
theorem zLZ (a b:List UInt8):tx a++tx b=tx (a++b):=by
 apply ByteArray.ext
 show (tx a++tx b).data=_
 simp [tx,ByteArray.data_append]
theorem zAg (a:List UInt8):(tx a).toList=a:=by rw [ByteArray.toList_eq];simp [tx]
theorem zAK (a:List UInt8):(tx a).size=a.length:=by simp [tx,ByteArray.size]
theorem zBK {P:Program} {w:World} {src dst e:TypeId} {A:Option Addr} {n c B:Nat} {bs:List UInt8} (hs:P.underlying src=some (.slice e)) (he:P.underlying e=some (.int .u8)) (hd:P.underlying dst=some .string)
  (hr:zAE w B 1 A n (bs.map bv)):(convert src dst (.slice A n c)).run P w=.ok (.string (tx bs)) w:=by
 have hl:bs.length=n:=by have:=hr.1;simpa using this
 subst hl
 rcases A with _ | a
 ·have h0:bs.length=0:=by
   rcases Nat.eq_zero_or_pos bs.length with h0 | h0
   ·exact h0
   ·obtain ⟨ad,h,_⟩:=hr.2 h0
    cases h
  have hb:bs=[]:=List.eq_nil_of_length_eq_zero h0
  subst hb
  rw [run_convert_bytes_string w src dst e none _ c hs he hd]
  rfl
 ·refine run_convert_bytes_back w src dst e a c bs hs he hd (fun j hj =>?_)
  obtain ⟨ad,h,_,hc⟩:=hr.2 (by omega)
  cases h
  exact hc j _ (by simp [hj,bv])
theorem zDv (W:World) (e:TypeId) (x:UInt8):zAE (W.alloc (.cells #[bv x] e)) (W.heap.size+1) 1 (some ⟨W.heap.size,0,none⟩) 1 ([x].map bv) :=
 ⟨rfl,fun _ =>⟨_,rfl,by simp,fun j u hu =>by
  cases j with
  | zero =>
   have hu':bv x=u:=by simpa using hu
   subst hu'
   simp [Addr.add]
  | succ j =>simp at hu⟩⟩
theorem zAc {P:Program} (w:World) (a b:List UInt8) (h:a.length+b.length≤9223372036854775807):(Op.stringOp .add (tx a) (tx b)).run P w=.ok (.string (tx (a++b))) w:=by
 rw [run_string_add_sum w _ _ (by rw [zAK,zAK];exact h),zLZ]
theorem zAS {w:World} {base n size:Nat} {e:TypeId} {v:Value} {xs:List Value} (h:w.ownsRow base e size v n xs):∀ k,v.ownBlock=some k→base≤k:=by
 intro k hk
 obtain ⟨_,⟨rfl,_⟩ | ⟨g,cap,cur,rfl,hb,_⟩⟩:=h
 ·simp [Value.ownBlock] at hk
 ·simp [Value.ownBlock] at hk;omega
theorem zAb {w w':World} {base n size:Nat} {e:TypeId} {v:Value} {xs:List Value} (h:w.ownsRow base e size v n xs) (hb:Below w.heap.size w w'):w'.ownsRow base e size v n xs:=by
 obtain ⟨h1,h2 | ⟨g,cap,cur,hv,hbg,hg,r⟩⟩:=h
 ·exact ⟨h1,.inl h2⟩
 ·have hlt:g<w.heap.size:=by
   rcases Nat.lt_or_ge g w.heap.size with hlt | hge
   ·exact hlt
   ·rw [Array.getElem?_eq_none hge] at hg;cases hg
  exact ⟨h1,.inr ⟨g,cap,cur,hv,hbg,by rw [hb.block g hlt];exact hg,r⟩⟩
theorem zFh (w:World) (e:TypeId):(w.alloc (.cells #[] e)).ownsRow w.heap.size e 1 (.slice (some ⟨w.heap.size,0,none⟩) 0 0) 0 [] :=
 ⟨rfl,.inr ⟨w.heap.size,0,#[],rfl,Nat.le_refl _,by show (w.heap.push _)[w.heap.size]? = _;simp,Nat.le_refl _,by unfold maxLen;omega,rfl,rfl⟩⟩
def zEf (u v:Value):Prop:=∀ g,u.ownBlock=some g→v.ownBlock≠some g
theorem zEf.symm {u v:Value} (h:zEf u v):zEf v u:=fun g h1 h2 =>h g h2 h1
section
variable {w w':World} {base n m k cap g size:Nat} {e:TypeId} {vb vc:Value} {xs:List Value}
theorem zBu (h:w.ownsRow base e size vc n xs):∀ g,vc.ownBlock=some g→g<w.heap.size:=by
 intro g hg
 obtain ⟨_,⟨rfl,_⟩ | ⟨g',cap,cur,rfl,_,hh,_⟩⟩:=h
 ·simp [Value.ownBlock] at hg
 ·have e:g'=g:=by simpa [Value.ownBlock] using hg
  subst e
  rcases Nat.lt_or_ge g' w.heap.size with hlt | hge
  ·exact hlt
  ·rw [Array.getElem?_eq_none hge] at hh;cases hh
theorem zJq (hc:w.ownsRow base e size vc n xs) (h:zEf vb vc) (hg:w.grownBy w' vb.ownBlock):w'.ownsRow base e size vc n xs:=by
 refine hc.kept hg ?_
 cases hv:vc.ownBlock with
 | none =>exact .inl rfl
 | some g =>exact .inr (fun h2 =>h g h2.symm hv)
end
def rsv (t:List UInt8):Value:=.string (tx t)
structure Rc where
 kind:Int
 target:List UInt8
 rule:Int
 out:Int
 time:Int
 tag:List UInt8
structure Dp where
 name:List UInt8
 hash:Int
 order:Bool
def Dp.cells (d:Dp):List Value:=[rsv d.name,.int .u64 d.hash,.bool d.order]
def dps (l:List Dp):List Value:=l.flatMap Dp.cells
def rcv (r:Rc) (A:Option Addr) (n c:Nat):Value:=.agg #[.int .i64 r.kind,rsv r.target,.int .u64 r.rule,.slice A n c,.int .u64 r.out,.int .u64 r.time,rsv r.tag]
def zBd (r:Rc):Value:=.agg #[.int .i64 r.kind,rsv r.target,rsv r.tag,.int .u64 r.rule,.int .u64 r.out,.int .u64 r.time]
theorem zAk (t:List UInt8):(tx t).size=t.length:=by simp [tx,ByteArray.size]
theorem zCM (t:List UInt8) (h:t≠[]):((tx t).toList == [])=false:=by
 rw [beq_eq_false_iff_ne]
 intro e
 exact h (by simpa [tx] using e)
theorem zAh {s t:List UInt8} (h:s≠t):((tx s).toList == (tx t).toList)=false:=by
 rw [beq_eq_false_iff_ne]
 intro e
 exact h (by simpa [tx] using e)
theorem zAj (s:List UInt8):((tx s).toList == (tx s).toList)=true:=by simp
theorem zJw (kind1 kind2:Int) (target1 target2:List UInt8) (rule1 rule2:Int) (out1 out2:Int) (time1 time2:Int) (tag1 tag2:List UInt8) (n1 n2:Nat) (A B:Option Addr) (c d:Nat) (h:kind1≠kind2) (w:World) :
  Calls Tryz.prog 16 #[.agg #[.int .i64 kind1,.string (tx target1),.int .u64 rule1,.slice A n1 c,.int .u64 out1,.int .u64 time1,.string (tx tag1)],.agg #[.int .i64 kind2,.string (tx target2),.int .u64 rule2,.slice B n2 d,.int .u64 out2,.int .u64 time2,.string (tx tag2)]] w fun e w' =>e=.returned (.bool false)∧Below w.heap.size w w':=by
 have HB:=yh (((Below.refl w.heap.size w).alloc (Nat.le_refl _) (.cells #[.int .i64 kind1,.string (tx target1),.int .u64 rule1,.slice A n1 c,.int .u64 out1,.int .u64 time1,.string (tx tag1)] 37)).alloc (by simp) (.cells #[.int .i64 kind2,.string (tx target2),.int .u64 rule2,.slice B n2 d,.int .u64 out2,.int .u64 time2,.string (tx tag2)] 37))
 have hu1:(kind1 != kind2)=true:=by rw [bne_iff_ne];exact h
 have hu2:decide (kind1=kind2)=false:=decide_eq_false h
 have hu3:(kind1 == kind2)=false:=by rw [beq_eq_false_iff_ne];exact h
 clear h
 go_enter Tryz.func16,Tryz.ntmps16
 go_wp2
 go_ret
 exact ⟨rfl,HB.out⟩
theorem zIB (kind:Int) (target1 target2:List UInt8) (rule1 rule2:Int) (out1 out2:Int) (time1 time2:Int) (tag1 tag2:List UInt8) (n1 n2:Nat) (A B:Option Addr) (c d:Nat) (h:target1≠target2) (w:World) :
  Calls Tryz.prog 16 #[.agg #[.int .i64 kind,.string (tx target1),.int .u64 rule1,.slice A n1 c,.int .u64 out1,.int .u64 time1,.string (tx tag1)],.agg #[.int .i64 kind,.string (tx target2),.int .u64 rule2,.slice B n2 d,.int .u64 out2,.int .u64 time2,.string (tx tag2)]] w fun e w' =>e=.returned (.bool false)∧Below w.heap.size w w':=by
 have HB:=yh (((Below.refl w.heap.size w).alloc (Nat.le_refl _) (.cells #[.int .i64 kind,.string (tx target1),.int .u64 rule1,.slice A n1 c,.int .u64 out1,.int .u64 time1,.string (tx tag1)] 37)).alloc (by simp) (.cells #[.int .i64 kind,.string (tx target2),.int .u64 rule2,.slice B n2 d,.int .u64 out2,.int .u64 time2,.string (tx tag2)] 37))
 have hu:=zAh h
 clear h
 go_enter Tryz.func16,Tryz.ntmps16
 go_wp2
 go_ret
 exact ⟨rfl,HB.out⟩
theorem zJx (kind:Int) (target:List UInt8) (rule1 rule2:Int) (out1 out2:Int) (time1 time2:Int) (tag1 tag2:List UInt8) (n1 n2:Nat) (A B:Option Addr) (c d:Nat) (h:rule1≠rule2) (w:World) :
  Calls Tryz.prog 16 #[.agg #[.int .i64 kind,.string (tx target),.int .u64 rule1,.slice A n1 c,.int .u64 out1,.int .u64 time1,.string (tx tag1)],.agg #[.int .i64 kind,.string (tx target),.int .u64 rule2,.slice B n2 d,.int .u64 out2,.int .u64 time2,.string (tx tag2)]] w fun e w' =>e=.returned (.bool false)∧Below w.heap.size w w':=by
 have HB:=yh (((Below.refl w.heap.size w).alloc (Nat.le_refl _) (.cells #[.int .i64 kind,.string (tx target),.int .u64 rule1,.slice A n1 c,.int .u64 out1,.int .u64 time1,.string (tx tag1)] 37)).alloc (by simp) (.cells #[.int .i64 kind,.string (tx target),.int .u64 rule2,.slice B n2 d,.int .u64 out2,.int .u64 time2,.string (tx tag2)] 37))
 have hu1:(rule1 != rule2)=true:=by rw [bne_iff_ne];exact h
 have hu2:decide (rule1=rule2)=false:=decide_eq_false h
 have hu3:(rule1 == rule2)=false:=by rw [beq_eq_false_iff_ne];exact h
 have hl1:=zAj target
 clear h
 go_enter Tryz.func16,Tryz.ntmps16
 go_wp2
 go_ret
 exact ⟨rfl,HB.out⟩
theorem zKw (kind:Int) (target:List UInt8) (rule:Int) (out1 out2:Int) (time1 time2:Int) (tag1 tag2:List UInt8) (n1 n2:Nat) (A B:Option Addr) (c d:Nat) (h:out1≠out2) (w:World) :
  Calls Tryz.prog 16 #[.agg #[.int .i64 kind,.string (tx target),.int .u64 rule,.slice A n1 c,.int .u64 out1,.int .u64 time1,.string (tx tag1)],.agg #[.int .i64 kind,.string (tx target),.int .u64 rule,.slice B n2 d,.int .u64 out2,.int .u64 time2,.string (tx tag2)]] w fun e w' =>e=.returned (.bool false)∧Below w.heap.size w w':=by
 have HB:=yh (((Below.refl w.heap.size w).alloc (Nat.le_refl _) (.cells #[.int .i64 kind,.string (tx target),.int .u64 rule,.slice A n1 c,.int .u64 out1,.int .u64 time1,.string (tx tag1)] 37)).alloc (by simp) (.cells #[.int .i64 kind,.string (tx target),.int .u64 rule,.slice B n2 d,.int .u64 out2,.int .u64 time2,.string (tx tag2)] 37))
 have hu1:(out1 != out2)=true:=by rw [bne_iff_ne];exact h
 have hu2:decide (out1=out2)=false:=decide_eq_false h
 have hu3:(out1 == out2)=false:=by rw [beq_eq_false_iff_ne];exact h
 have hl1:=zAj target
 clear h
 go_enter Tryz.func16,Tryz.ntmps16
 go_wp2
 go_ret
 exact ⟨rfl,HB.out⟩
theorem zJy (kind:Int) (target:List UInt8) (rule:Int) (out:Int) (time1 time2:Int) (tag1 tag2:List UInt8) (n1 n2:Nat) (A B:Option Addr) (c d:Nat) (h:time1≠time2) (w:World) :
  Calls Tryz.prog 16 #[.agg #[.int .i64 kind,.string (tx target),.int .u64 rule,.slice A n1 c,.int .u64 out,.int .u64 time1,.string (tx tag1)],.agg #[.int .i64 kind,.string (tx target),.int .u64 rule,.slice B n2 d,.int .u64 out,.int .u64 time2,.string (tx tag2)]] w fun e w' =>e=.returned (.bool false)∧Below w.heap.size w w':=by
 have HB:=yh (((Below.refl w.heap.size w).alloc (Nat.le_refl _) (.cells #[.int .i64 kind,.string (tx target),.int .u64 rule,.slice A n1 c,.int .u64 out,.int .u64 time1,.string (tx tag1)] 37)).alloc (by simp) (.cells #[.int .i64 kind,.string (tx target),.int .u64 rule,.slice B n2 d,.int .u64 out,.int .u64 time2,.string (tx tag2)] 37))
 have hu1:(time1 != time2)=true:=by rw [bne_iff_ne];exact h
 have hu2:decide (time1=time2)=false:=decide_eq_false h
 have hu3:(time1 == time2)=false:=by rw [beq_eq_false_iff_ne];exact h
 have hl1:=zAj target
 clear h
 go_enter Tryz.func16,Tryz.ntmps16
 go_wp2
 go_ret
 exact ⟨rfl,HB.out⟩
theorem zKx (kind:Int) (target:List UInt8) (rule:Int) (out:Int) (time:Int) (tag1 tag2:List UInt8) (n1 n2:Nat) (A B:Option Addr) (c d:Nat) (h:tag1≠tag2) (w:World) :
  Calls Tryz.prog 16 #[.agg #[.int .i64 kind,.string (tx target),.int .u64 rule,.slice A n1 c,.int .u64 out,.int .u64 time,.string (tx tag1)],.agg #[.int .i64 kind,.string (tx target),.int .u64 rule,.slice B n2 d,.int .u64 out,.int .u64 time,.string (tx tag2)]] w fun e w' =>e=.returned (.bool false)∧Below w.heap.size w w':=by
 have HB:=yh (((Below.refl w.heap.size w).alloc (Nat.le_refl _) (.cells #[.int .i64 kind,.string (tx target),.int .u64 rule,.slice A n1 c,.int .u64 out,.int .u64 time,.string (tx tag1)] 37)).alloc (by simp) (.cells #[.int .i64 kind,.string (tx target),.int .u64 rule,.slice B n2 d,.int .u64 out,.int .u64 time,.string (tx tag2)] 37))
 have hu:=zAh h
 have hl1:=zAj target
 clear h
 go_enter Tryz.func16,Tryz.ntmps16
 go_wp2
 go_ret
 exact ⟨rfl,HB.out⟩
theorem zLn (kind:Int) (target:List UInt8) (rule:Int) (out:Int) (time:Int) (tag:List UInt8) (n1 n2:Nat) (A B:Option Addr) (c d:Nat) (h:n1≠n2) (w:World) :
  Calls Tryz.prog 16 #[.agg #[.int .i64 kind,.string (tx target),.int .u64 rule,.slice A n1 c,.int .u64 out,.int .u64 time,.string (tx tag)],.agg #[.int .i64 kind,.string (tx target),.int .u64 rule,.slice B n2 d,.int .u64 out,.int .u64 time,.string (tx tag)]] w fun e w' =>e=.returned (.bool false)∧Below w.heap.size w w':=by
 have HB:=yh (((Below.refl w.heap.size w).alloc (Nat.le_refl _) (.cells #[.int .i64 kind,.string (tx target),.int .u64 rule,.slice A n1 c,.int .u64 out,.int .u64 time,.string (tx tag)] 37)).alloc (by simp) (.cells #[.int .i64 kind,.string (tx target),.int .u64 rule,.slice B n2 d,.int .u64 out,.int .u64 time,.string (tx tag)] 37))
 have hu0:(n1:Int)≠(n2:Int):=by omega
 have hu1:((n1:Int) != (n2:Int))=true:=by rw [bne_iff_ne];exact hu0
 have hu3:((n1:Int) == (n2:Int))=false:=by rw [beq_eq_false_iff_ne];exact hu0
 have hl1:=zAj target
 have hl5:=zAj tag
 clear h
 go_enter Tryz.func16,Tryz.ntmps16
 go_wp2
 go_ret
 exact ⟨rfl,HB.out⟩
theorem zAd (l:List Dp):(dps l).length=l.length * 3:=by
 induction l with
 | nil =>rfl
 | cons t l ih =>simp [dps,Dp.cells] at *;omega
theorem zAt:∀ (l:List Dp) (i:Nat) (t:Dp),l[i]? = some t→(dps l)[i * 3]? = some (rsv t.name)∧(dps l)[i * 3+1]? = some (.int .u64 t.hash)∧(dps l)[i * 3+2]? = some (.bool t.order)
 | [],i,t,h =>by simp at h
 | a :: l,0,t,h =>by
  have:a=t:=by simpa using h
  subst this
  exact ⟨rfl,rfl,rfl⟩
 | a :: l,i+1,t,h =>by
  have:=zAt l i t (by simpa using h)
  have e:∀ j,(dps (a :: l))[(i+1) * 3+j]? = (dps l)[i * 3+j]?:=fun j =>by
   show (Dp.cells a++dps l)[(i+1) * 3+j]? = _
   rw [List.getElem?_append_right (by simp [Dp.cells];omega)]
   congr 1
   simp [Dp.cells];omega
  exact ⟨(e 0).trans this.1,(e 1).trans this.2.1,(e 2).trans this.2.2⟩
theorem zBO (a:Addr) (k:Nat):a.add (k+1)=⟨(a.add k).block,(a.add k).off+1,none⟩:=by
 unfold Addr.add
 by_cases h:k=0
 ·subst h;rfl
 ·simp [h,Nat.add_assoc]
theorem zBP (a:Addr) (k:Nat):a.add (k+2)=⟨(a.add k).block,(a.add k).off+2,none⟩:=by
 unfold Addr.add
 by_cases h:k=0
 ·subst h;rfl
 ·simp [h,Nat.add_assoc]
theorem zBq {z:Int} (h0:-9223372036854775808≤z) (h1:z≤9223372036854775807):IntKind.i64.wrap z=z:=by simp [IntKind.wrap,IntKind.signed,IntKind.bits];omega
def zAX (P:Prop) (e:Ending):Prop:=∃ q:Bool,(q=true ↔ P)∧e=.returned (.bool q)
theorem zAq {P:Prop} (h:P):zAX P (.returned (.bool true)):=⟨true,by simp [h],rfl⟩
theorem zAF {P:Prop} (h:¬ P):zAX P (.returned (.bool false)):=⟨false,by simp [h],rfl⟩
theorem zAX.iff {P Q:Prop} {e:Ending} (h:zAX P e) (hpq:P ↔ Q):zAX Q e:=by
 obtain ⟨q,h1,h2⟩:=h
 exact ⟨q,h1.trans hpq,h2⟩
theorem zAX.yes {P:Prop} {e:Ending} (h:zAX P e) (hp:P):e=.returned (.bool true):=by
 obtain ⟨q,h1,h2⟩:=h
 rw [h2,h1.2 hp]
theorem zAX.no {P:Prop} {e:Ending} (h:zAX P e) (hp:¬ P):e=.returned (.bool false):=by
 obtain ⟨q,h1,h2⟩:=h
 rw [h2,show q=false from by rw [← Bool.not_eq_true,h1];exact hp]
def zAO (r:Rc) (A:Option Addr) (n c:Nat):Array Value:=#[.int .i64 r.kind,.string (tx r.target),.int .u64 r.rule,.slice A n c,.int .u64 r.out,.int .u64 r.time,.string (tx r.tag)]
def Fits (r:Rc) (l:List Dp):Prop:=r.target.length≤maxLen∧r.tag.length≤maxLen∧∀ d ∈ l,d.name.length≤maxLen
open Go.ChangeShapes Go.WideShapes Go.ChangeAt Go.RowKit Go.Deep
theorem zBC {cs:List Value} {j:Nat} {v:Value} (h:(cs.drop j).take 1=[v]):cs[j]? = some v:=by
 have:=congrArg (fun l:List Value =>l[0]?) h
 simpa using this
theorem zFj (s:ByteArray):tx s.data.toList=s:=by
 cases s
 simp [tx]
theorem zGA (W:World) (ad:Addr):∀ n:Nat,(∀ i,i<n→∃ d:Dp,d.name.length≤maxLen∧W.cell? (ad.add (i * 3))=some (rsv d.name)∧W.cell? (ad.add (i * 3+1))=some (.int .u64 d.hash)∧W.cell? (ad.add (i * 3+2))=some (.bool d.order)) →
  ∃ l:List Dp,l.length=n∧(∀ d ∈ l,d.name.length≤maxLen)∧∀ i d,l[i]? = some d→W.cell? (ad.add (i * 3))=some (rsv d.name)∧W.cell? (ad.add (i * 3+1))=some (.int .u64 d.hash)∧W.cell? (ad.add (i * 3+2))=some (.bool d.order)
 | 0,_ =>⟨[],rfl,by simp,by simp⟩
 | n+1,h =>by
  obtain ⟨ts,h1,h2,h3⟩:=zGA W ad n (fun i hi =>h i (by omega))
  obtain ⟨t,g1,g2⟩:=h n (by omega)
  refine ⟨ts++[t],by simp [h1],?_,?_⟩
  ·intro u hu
   rcases List.mem_append.1 hu with hu | hu
   ·exact h2 u hu
   ·have:u=t:=by simpa using hu
    rw [this];exact g1
  ·intro i u hu
   rcases Nat.lt_or_ge i ts.length with hlt | hge
   ·rw [List.getElem?_append_left hlt] at hu
    exact h3 i u hu
   ·rw [List.getElem?_append_right hge] at hu
    have hi:i=n:=by
     rcases Nat.lt_or_ge (i - ts.length) 1 with h4 | h4
     ·omega
     ·rw [List.getElem?_eq_none (by simpa using h4)] at hu;cases hu
    subst hi
    rw [h1,Nat.sub_self] at hu
    have:t=u:=by simpa using hu
    rw [← this];exact g2
theorem zGD:∀ (l:List Dp) (j:Nat) (u:Value),(dps l)[j]? = some u→∃ t,l[j / 3]? = some t∧((j % 3=0∧u=rsv t.name)∨(j % 3=1∧u=.int .u64 t.hash)∨(j % 3=2∧u=.bool t.order))
 | [],j,u,h =>by simp [dps] at h
 | a :: l,j,u,h =>by
  have e:(Dp.cells a++dps l)[j]? = some u:=h
  rcases Nat.lt_or_ge j 3 with hlt | hge
  ·rw [List.getElem?_append_left (by simp [Dp.cells];omega)] at e
   refine ⟨a,by rw [show j / 3=0 by omega];rfl,?_⟩
   obtain rfl | rfl | rfl:j=0∨j=1∨j=2:=by omega
   ·exact .inl ⟨rfl,(Option.some.inj e).symm⟩
   ·exact .inr (.inl ⟨rfl,(Option.some.inj e).symm⟩)
   ·exact .inr (.inr ⟨rfl,(Option.some.inj e).symm⟩)
  ·rw [List.getElem?_append_right (by simp [Dp.cells];omega)] at e
   have e2:(dps l)[j - 3]? = some u:=e
   obtain ⟨t,h1,h2⟩:=zGD l (j - 3) u e2
   refine ⟨t,by rw [show j / 3=(j - 3) / 3+1 by omega];simpa using h1,?_⟩
   rw [show j % 3=(j - 3) % 3 by omega]
   exact h2
theorem zKT:Tryz.prog.cellsOf 73=3:=by kernel_rfl
theorem zEh:Tryz.prog.cellsOf 9=1:=by kernel_rfl
theorem zCp:Tryz.prog.cellsOf 34=1:=by kernel_rfl
theorem zIP:Tryz.prog.cellsOf 4=1:=by kernel_rfl
theorem zKU:Tryz.prog.cellsOf 3=1:=by kernel_rfl
theorem zIQ:Tryz.prog.cellsOf 35=1:=by kernel_rfl
theorem zKV:Tryz.prog.cellsOf 37=7:=by kernel_rfl
theorem zIs {H:Type} {enc:TypeId×Value→H} {W:World} {fuel:Nat} {cs:List Value} {x:DataW H×List MemPlace} (hf:DataW.trod enc Tryz.prog W 0 (fun _ =>true) true fuel 35 cs=some x) :
  ∃ (A:Option Addr) (n c:Nat) (l:List Dp),cs=[.slice A n c]∧n≤maxLen∧(A=none→c=0)∧(∀ d ∈ l,d.name.length≤maxLen)∧zAE W W.heap.size 3 A n (dps l):=by
 rcases Go.Deep.open_slice Tryz.underlying35 hf with ⟨hcs,_⟩ | ⟨ad,n,c,m,k,D,Pl,hcs,_,hl,hmx,hm,_,hi⟩
 ·exact ⟨none,0,0,[],hcs,by omega,fun _ =>rfl,by simp,by simp [dps],fun h =>absurd h (by omega)⟩
 ·have hnm:n≤m:=by rw [hm];simp;exact hl
  have hall:∀ i,i<n→∃ d:Dp,d.name.length≤maxLen∧W.cell? (ad.add (i * 3))=some (rsv d.name)∧W.cell? (ad.add (i * 3+1))=some (.int .u64 d.hash)∧W.cell? (ad.add (i * 3+2))=some (.bool d.order):=by
   intro i hin
   obtain ⟨cs,hcell,htr⟩:=hi i (by omega)
   rw [zKT] at hcell
   obtain ⟨_,_,hat⟩:=World.cells?_some hcell
   obtain ⟨y0,y1,y2,n',_,_,g0,g1,g2⟩:=trod_struct3 Tryz.underlying73 htr
   rw [zEh] at g0
   rw [zCp] at g1
   rw [zIP] at g2
   obtain ⟨z0,e0,_,w0⟩:=DataW.trod_string Tryz.underlying9 g0
   obtain ⟨z1,e1,_,w1⟩:=DataW.trod_int Tryz.underlying34 g1
   obtain ⟨z2,e2,_⟩:=DataW.trod_bool Tryz.underlying4 g2
   refine ⟨⟨z0.data.toList,z1,z2⟩,by rw [Array.length_toList];exact w0,?_,?_,?_⟩
   ·have h:=hat 0 (by omega)
    rw [zBm,zBC e0] at h
    show _=some (rsv z0.data.toList)
    rw [rsv,zFj]
    exact h
   ·have h:=hat 1 (by omega)
    rw [zBm,zBC e1] at h
    exact h
   ·have h:=hat 2 (by omega)
    rw [zBm,zBC e2] at h
    exact h
  obtain ⟨l,h1,h2,h3⟩:=zGA W ad n hall
  refine ⟨some ad,n,c,l,hcs,by omega,fun h =>(by cases h),h2,by rw [zAd,h1],fun hn =>⟨ad,rfl,?_,fun j u hu =>?_⟩⟩
  ·obtain ⟨t,_,h4,_⟩:=hall 0 hn
   have:=zHL h4
   rwa [zAH] at this
  ·obtain ⟨t,g1,g2⟩:=zGD l j u hu
   obtain ⟨q0,q1,q2⟩:=h3 _ t g1
   rcases g2 with ⟨hj,rfl⟩ | ⟨hj,rfl⟩ | ⟨hj,rfl⟩
   ·rw [show j / 3 * 3=j by omega] at q0;exact q0
   ·rw [show j / 3 * 3+1=j by omega] at q1;exact q1
   ·rw [show j / 3 * 3+2=j by omega] at q2;exact q2
theorem zDz {H:Type} {enc:TypeId×Value→H} {P:Program} {w:World} {base:Nat} {spare:Nat→Bool} {held:Bool} {t:TypeId} {f0 f1 f2 f3 f4 f5 f6:Field} {fuel:Nat} {cs:List Value} {x:DataW H×List MemPlace} (ht:P.underlying t=some (.struct #[f0,f1,f2,f3,f4,f5,f6])) (h:DataW.trod enc P w base spare held fuel t cs=some x) :
  ∃ y0 y1 y2 y3 y4 y5 y6 n,cs.length=P.cellsOf t∧DataW.trod enc P w base spare held n f0.type ((cs.drop f0.offset).take (P.cellsOf f0.type))=some y0∧DataW.trod enc P w base spare held n f1.type ((cs.drop f1.offset).take (P.cellsOf f1.type))=some y1∧DataW.trod enc P w base spare held n f2.type ((cs.drop f2.offset).take (P.cellsOf f2.type))=some y2∧DataW.trod enc P w base spare held n f3.type ((cs.drop f3.offset).take (P.cellsOf f3.type))=some y3∧DataW.trod enc P w base spare held n f4.type ((cs.drop f4.offset).take (P.cellsOf f4.type))=some y4∧DataW.trod enc P w base spare held n f5.type ((cs.drop f5.offset).take (P.cellsOf f5.type))=some y5∧DataW.trod enc P w base spare held n f6.type ((cs.drop f6.offset).take (P.cellsOf f6.type))=some y6:=by
 obtain ⟨xs,n,_,rfl,hl,hlen,hf⟩:=DataW.trod_struct ht h
 match xs,hlen with
 | [y0,y1,y2,y3,y4,y5,y6],_ =>exact ⟨y0,y1,y2,y3,y4,y5,y6,n,hl,by simpa using hf 0 f0 rfl,by simpa using hf 1 f1 rfl,by simpa using hf 2 f2 rfl,by simpa using hf 3 f3 rfl,by simpa using hf 4 f4 rfl,by simpa using hf 5 f5 rfl,by simpa using hf 6 f6 rfl⟩
theorem zEL {H:Type} {enc:TypeId×Value→H} {W:World} {fuel:Nat} {cs:List Value} {x:DataW H×List MemPlace} (hf:DataW.trod enc Tryz.prog W 0 (fun _ =>true) true fuel 37 cs=some x) :
  ∃ (r:Rc) (A:Option Addr) (n c:Nat) (l:List Dp),cs=(zAO r A n c).toList∧n≤maxLen∧(A=none→c=0)∧Fits r l∧zAE W W.heap.size 3 A n (dps l):=by
 obtain ⟨y0,y1,y2,y3,y4,y5,y6,n',hl,g0,g1,g2,g3,g4,g5,g6⟩:=zDz Tryz.underlying37 hf
 rw [zKV] at hl
 rw [zKU] at g0
 rw [zEh] at g1
 rw [zCp] at g2
 rw [zIQ] at g3
 rw [zCp] at g4
 rw [zCp] at g5
 rw [zEh] at g6
 obtain ⟨z0,e0,_,w0⟩:=DataW.trod_int Tryz.underlying3 g0
 obtain ⟨z1,e1,_,w1⟩:=DataW.trod_string Tryz.underlying9 g1
 obtain ⟨z2,e2,_,w2⟩:=DataW.trod_int Tryz.underlying34 g2
 obtain ⟨A,n,c,l,e3,hn,hA,hd,hr⟩:=zIs g3
 obtain ⟨z4,e4,_,w4⟩:=DataW.trod_int Tryz.underlying34 g4
 obtain ⟨z5,e5,_,w5⟩:=DataW.trod_int Tryz.underlying34 g5
 obtain ⟨z6,e6,_,w6⟩:=DataW.trod_string Tryz.underlying9 g6
 refine ⟨⟨z0,z1.data.toList,z2,z4,z5,z6.data.toList⟩,A,n,c,l,?_,hn,hA,⟨by rw [Array.length_toList];exact w1,by rw [Array.length_toList];exact w6,hd⟩,hr⟩
 match cs,hl with
 | [c0,c1,c2,c3,c4,c5,c6],_ =>
  have f0:=zBC e0
  have f1:=zBC e1
  have f2:=zBC e2
  have f3:=zBC e3
  have f4:=zBC e4
  have f5:=zBC e5
  have f6:=zBC e6
  simp at f0 f1 f2 f3 f4 f5 f6
  subst f0 f1 f2 f3 f4 f5 f6
  unfold zAO
  simp only [zFj]
def Nums (r:Rc) (l:List Dp):Prop:=(0≤r.rule∧r.rule<18446744073709551616)∧(0≤r.out∧r.out<18446744073709551616)∧(0≤r.time∧r.time<18446744073709551616)∧∀ d ∈ l,0≤d.hash∧d.hash<18446744073709551616
theorem wf64 {z:Int} (h:(Lit.int .u64 z).wf=true):0≤z∧z<18446744073709551616:=by
 have hx:0≤z∧z≤18446744073709551615:=by simpa [Lit.wf,IntKind.min,IntKind.max,IntKind.signed,IntKind.bits] using h
 omega
theorem zIT {H:Type} {enc:TypeId×Value→H} {W:World} {fuel:Nat} {A:Option Addr} {n c:Nat} {l:List Dp} {x:DataW H×List MemPlace} (hf:DataW.trod enc Tryz.prog W 0 (fun _ =>true) true fuel 35 [.slice A n c]=some x) (hr:zAE W W.heap.size 3 A n (dps l)):∀ d ∈ l,0≤d.hash∧d.hash<18446744073709551616:=by
 have hln:l.length=n:=by have:=hr.1;rw [zAd] at this;omega
 rcases Go.Deep.open_slice Tryz.underlying35 hf with ⟨hcs,_⟩ | ⟨ad,n',c',m,k,D,Pl,hcs,_,hl,hmx,hm,_,hi⟩
 ·have h1:n=0:=by injection hcs with h1;injection h1
  intro d hd
  have:l=[]:=List.eq_nil_of_length_eq_zero (by omega)
  rw [this] at hd
  cases hd
 ·obtain ⟨rfl,rfl,rfl⟩:A=some ad∧n=n'∧c=c':=by
   injection hcs with h1 _
   injection h1 with h2 h3 h4
   exact ⟨h2,h3,h4⟩
  intro d hd
  obtain ⟨i,hlt,hid⟩:=List.mem_iff_getElem.1 hd
  have hid':l[i]? = some d:=by rw [List.getElem?_eq_getElem hlt,hid]
  obtain ⟨_,g,_⟩:=zAt l i d hid'
  obtain ⟨ad',hae,_,hc⟩:=hr.2 (by omega)
  obtain rfl:ad=ad':=Option.some.inj hae
  have hcell:=hc _ _ g
  have hnm:n≤m:=by rw [hm];simp;exact hl
  obtain ⟨cs,hcs2,htr⟩:=hi i (by omega)
  rw [zKT] at hcs2
  obtain ⟨_,_,hat⟩:=World.cells?_some hcs2
  obtain ⟨y0,y1,y2,nn,_,_,g0,g1,g2⟩:=trod_struct3 Tryz.underlying73 htr
  rw [zEh] at g0
  rw [zCp] at g1
  rw [zIP] at g2
  obtain ⟨z1,e1,_,w1⟩:=DataW.trod_int Tryz.underlying34 g1
  have h:=hat 1 (by omega)
  rw [zBm,zBC e1] at h
  have h2:some (Value.int .u64 z1)=some (Value.int .u64 d.hash):=h.symm.trans hcell
  injection h2 with h3
  injection h3 with _ h4
  rw [← h4]
  exact wf64 w1
theorem zEM {H:Type} {enc:TypeId×Value→H} {W:World} {fuel:Nat} {r:Rc} {A:Option Addr} {n c:Nat} {l:List Dp} {x:DataW H×List MemPlace} (hf:DataW.trod enc Tryz.prog W 0 (fun _ =>true) true fuel 37 (zAO r A n c).toList=some x) (hr:zAE W W.heap.size 3 A n (dps l)):Nums r l:=by
 obtain ⟨y0,y1,y2,y3,y4,y5,y6,n',hl,g0,g1,g2,g3,g4,g5,g6⟩:=zDz Tryz.underlying37 hf
 rw [zKU] at g0
 rw [zEh] at g1
 rw [zCp] at g2
 rw [zIQ] at g3
 rw [zCp] at g4
 rw [zCp] at g5
 obtain ⟨z2,e2,_,w2⟩:=DataW.trod_int Tryz.underlying34 g2
 obtain ⟨z4,e4,_,w4⟩:=DataW.trod_int Tryz.underlying34 g4
 obtain ⟨z5,e5,_,w5⟩:=DataW.trod_int Tryz.underlying34 g5
 have f2:Value.int .u64 r.rule=.int .u64 z2:=Option.some.inj (zBC e2)
 have f4:Value.int .u64 r.out=.int .u64 z4:=Option.some.inj (zBC e4)
 have f5:Value.int .u64 r.time=.int .u64 z5:=Option.some.inj (zBC e5)
 injection f2 with _ f2
 injection f4 with _ f4
 injection f5 with _ f5
 refine ⟨by rw [f2];exact wf64 w2,by rw [f4];exact wf64 w4,by rw [f5];exact wf64 w5,zIT (A:=A) (n:=n) (c:=c) g3 hr⟩
theorem zGZ {H:Type} {enc:TypeId×Value→H} {W:World} {v:Value} {d:DataW H} {ps:List MemPlace} {r0:Reach} {b0:Nat} (hval:Value.okWide Tryz.prog W r0 b0 37 v) (hd:DataW.Trod enc Tryz.prog W 0 (fun _ =>true) true 37 v d ps) :
  ∃ (r:Rc) (A:Option Addr) (n c:Nat) (l:List Dp),v=rcv r A n c∧n≤maxLen∧(A=none→c=0)∧Fits r l∧Nums r l∧zAE W W.heap.size 3 A n (dps l):=by
 obtain ⟨cs,rfl,_⟩:=okWide_struct Tryz.underlying37 hval
 obtain ⟨fuel,hf⟩:=hd
 obtain ⟨r,A,n,c,l,h1,h2,h3,h4,h5⟩:=zEL hf
 have e:cs=zAO r A n c:=by
  apply Array.ext'
  simpa [Value.cells] using h1
 subst e
 exact ⟨r,A,n,c,l,rfl,h2,h3,h4,zEM hf h5,h5⟩
variable {P:Program} {md:Region.Mode} {ops:Array Oper} {Q:Exit→Act→World→Prop} {S:World→Prop}
theorem zAB (i:Nat) (v:Value) {oi:Oper} {fuel:Nat} {listed:Array Bool} {a:Act} {w:World} (hi:ops[i]? = some oi)
  (hs:Region.noSelect ops=true) (hf:Region.free md ops listed i=true) (hr:(Region.ready md ops listed).contains i=true)
  (hQ:∀ c a w,Q (.panic c) (a.put oi.dst v) w→Q (.panic c) a w) (hw:Region.wanted oi (yielded ops a.tmps)=true) (hS:S w)
  (hy:∀ w,S w→(execOp a.eval oi).run P w=.ok (.value v) w)
  (h:wpAnyH P md ops Q S fuel (listed.setIfInBounds i true) (a.put oi.dst v) w):wpAnyH P md ops Q S (fuel+1) listed a w :=
 wpAnyH_take hi hs hf hr hQ (.inl ⟨hw,hy⟩) hS h
theorem zAR (i:Nat) {oi:Oper} {fuel:Nat} {listed:Array Bool} {a:Act} {w:World} (hi:ops[i]? = some oi)
  (hs:Region.noSelect ops=true) (hf:Region.free md ops listed i=true) (hr:(Region.ready md ops listed).contains i=true)
  (hQ:∀ c a w,Q (.panic c) (a.put oi.dst undef) w→Q (.panic c) a w) (hw:Region.wanted oi (yielded ops a.tmps)=false) (hS:S w)
  (h:wpAnyH P md ops Q S fuel (listed.setIfInBounds i true) (a.put oi.dst undef) w):wpAnyH P md ops Q S (fuel+1) listed a w :=
 wpAnyH_take hi hs hf hr hQ (.inr ⟨hw,rfl⟩) hS h
theorem zAJ (i:Nat) {oi:Oper} {fuel:Nat} {listed:Array Bool} {a:Act} {w:World} (hi:ops[i]? = some oi)
  (hr:Region.ready md ops listed=[i]) (hw:Region.wanted oi (yielded ops a.tmps)=true)
  (h:∀ K:Act→World→Prop,(∀ a' w',S w'→wpAnyH P md ops Q S fuel (listed.setIfInBounds i true) a' w'→K a' w')→oi.wp P a w K Q):wpAnyH P md ops Q S (fuel+1) listed a w:=by
 refine wpAnyH_all hr (by simp) (fun j hj =>?_)
 obtain rfl:j=i:=by simpa using hj
 unfold wpOp
 simp only [hi,hw,if_true]
 exact .inl (h _ fun _ _ h1 h2 =>⟨h1,h2⟩)
abbrev Q64:=BitVec 64
def mix (k:Nat) (x:Q64):Q64:=x ^^^ (x >>> k)
def unmix (k:Nat) (h:Q64):Q64:=h ^^^ (h >>> k) ^^^ (h >>> (k+k))
def k1:Q64:=11400714819323198485#64
def k2:Q64:=13787848793156543929#64
def k3:Q64:=10723151780598845931#64
theorem gone (k:Nat) (hk:22≤k) (x:Q64):x >>> (k+k+k)=0#64:=BitVec.ushiftRight_eq_zero (by omega)
def qv (x:Q64):Value:=.int .u64 (x.toNat:Int)
inductive St
 | plus (c:Q64) | times (c:Q64) | mix (k:Nat) | unmix (k:Nat)
def St.run:St→Q64→Q64
 | .plus c,x =>x+c
 | .times c,x =>x * c
 | .mix k,x =>Go.Proofs.YtgoklhoaedceaaaGreatDoor.mix k x
 | .unmix k,x =>Go.Proofs.YtgoklhoaedceaaaGreatDoor.unmix k x
end Go.Proofs.YtgoklhoaedceaaaGreatDoor
