/- Texts of one proof. -/
import Derived.Laws.Bits64b
import Derived.OneCell
import Derived.Outline
import Derived.RegionTactic
import Derived.Test.YtekchkfjgofnkaaGreatDoorMy1
set_option maxRecDepth 100000
set_option maxHeartbeats 8000000
namespace Go.Proofs.YtekchkfjgofnkaaGreatDoor
open Go.RowKit Go.Shelf
theorem zKJ (i x:Nat) (hi:i≤9) (w:World) :
  Calls Tryz.prog 179 #[.int .i64 (i:Int),.int .u8 (x:Int)] w fun e w' =>e=.returned (.bool (decide (¬ (i=9∧1<x)∧(i=0∨x≠0))))∧w=w':=by
 by_cases h1:i=9
 ·subst h1
  by_cases h2:1<x
  ·go_enter Tryz.func179,Tryz.ntmps179
   go_wp2
   go_ret
   exact ⟨by simp [h2],rfl⟩
  ·have h3:¬ (1<(x:Int)):=by omega
   by_cases h0:x=0
   ·subst h0
    go_enter Tryz.func179,Tryz.ntmps179
    go_wp2
    go_ret
    exact ⟨by simp,rfl⟩
   ·have h4:((x:Int) == 0)=false:=by simpa using h0
    have h5:((x:Int) != 0)=true:=by simpa using h0
    go_enter Tryz.func179,Tryz.ntmps179
    go_wp2
    go_ret
    exact ⟨by simp,rfl⟩
 ·have h9:((i:Int) == 9)=false:=by simpa using (by omega:¬ (i:Int)=9)
  by_cases hi0:i=0
  ·subst hi0
   go_enter Tryz.func179,Tryz.ntmps179
   go_wp2
   go_ret
   exact ⟨by simp,rfl⟩
  ·have hz:((i:Int) == 0)=false:=by simpa using hi0
   by_cases h0:x=0
   ·subst h0
    go_enter Tryz.func179,Tryz.ntmps179
    go_wp2
    go_ret
    exact ⟨by simp [h1,hi0],rfl⟩
   ·have h5:((x:Int) != 0)=true:=by simpa using h0
    go_enter Tryz.func179,Tryz.ntmps179
    go_wp2
    go_ret
    exact ⟨by simp [h1,h0],rfl⟩
theorem zLD (i x:Nat) (hi:i≤9) (h:¬ (i=9∧1<x)∧(i=0∨x≠0)) (w:World) :
  Calls Tryz.prog 179 #[.int .i64 (i:Int),.int .u8 (x:Int)] w fun e w' =>e=.returned (.bool true)∧w=w' :=
 (zKJ i x hi w).mono fun _ _ ⟨he,hw⟩ =>⟨by rw [he,decide_eq_true h],hw⟩
theorem zSO (i x:Nat) (hi:i≤9) (h:¬ (¬ (i=9∧1<x)∧(i=0∨x≠0))) (w:World) :
  Calls Tryz.prog 179 #[.int .i64 (i:Int),.int .u8 (x:Int)] w fun e w' =>e=.returned (.bool false)∧w=w' :=
 (zKJ i x hi w).mono fun _ _ ⟨he,hw⟩ =>⟨by rw [he,decide_eq_false h],hw⟩
theorem zSQ (a x k:Nat) (ha:a<2 ^ k):a ||| (x * 2 ^ k)=a+x * 2 ^ k:=by
 have:=Nat.two_pow_add_eq_or_of_lt ha x
 rw [Nat.or_comm,Nat.mul_comm,← this,Nat.add_comm]
theorem zJg (a v i:Nat) (hi:i≤9) (ha:a<128 ^ i) (hv:i=9→v≤1) :
  bits BinOp.or IntKind.u64 (a:Int) (IntKind.u64.wrap ((v:Int) % 128 * 2 ^ (7 * i)))=((a+v % 128 * 128 ^ i:Nat):Int):=by
 have e:(128:Nat) ^ i=2 ^ (7 * i):=by rw [show (128:Nat)=2 ^ 7 by rfl,← Nat.pow_mul]
 rw [e] at ha ⊢
 have hx:v % 128 * 2 ^ (7 * i)<18446744073709551616:=by
  by_cases h9:i=9
  ·subst h9
   have:=hv rfl
   have:v % 128≤1:=by omega
   have h2:v % 128 * 2 ^ (7 * 9)≤1 * 2 ^ (7 * 9):=Nat.mul_le_mul_right _ this
   omega
  ·have h1:2 ^ (7 * i)≤2 ^ 56:=Nat.pow_le_pow_right (by omega) (by omega)
   have h2:v % 128 * 2 ^ (7 * i)≤127 * 2 ^ 56:=Nat.mul_le_mul (by omega) h1
   omega
 have ha2:a<18446744073709551616:=by
  have h1:2 ^ (7 * i)≤2 ^ 63:=Nat.pow_le_pow_right (by omega) (by omega)
  omega
 have ew:IntKind.u64.wrap ((v:Int) % 128 * 2 ^ (7 * i))=((v % 128 * 2 ^ (7 * i):Nat):Int):=by
  have e1:((v:Int) % 128 * 2 ^ (7 * i))=((v % 128 * 2 ^ (7 * i):Nat):Int):=by push_cast;rfl
  rw [e1,IntKind.wrap_u64]
  omega
 rw [ew,bits_or_u64_nat _ _ ha2 hx,zSQ _ _ _ ha]
def zHK (at_:Nat) (r:Nat×Nat×Nat):Nat:=if r.2.2=0 then at_+r.2.1 else 0
def gres (at_:Nat) (r:Nat×Nat×Nat):Value:=.tuple #[.int .u64 (r.1:Int),.int .i64 (zHK at_ r:Int),.int .i64 (r.2.2:Int)]
theorem zKu {ys:List UInt8} {i:Nat} {u:Value} (h:(ys.map bv)[i]? = some u):∃ x:UInt8,u=.int .u8 (x.toNat:Int)∧ys.drop i=x :: ys.drop (i+1):=by
 rw [List.getElem?_map] at h
 obtain ⟨x,hx,rfl⟩:=Option.map_eq_some_iff.1 h
 obtain ⟨hlt,rfl⟩:=List.getElem?_eq_some_iff.1 hx
 exact ⟨_,rfl,List.drop_eq_getElem_cons hlt⟩
def GRel (m:Nat) (r:Nat×Nat×Nat) (ys:List UInt8) (acc idx:Value):Prop :=
 ∃ i a:Nat,i≤m∧i≤9∧idx=.int .i64 (i:Int)∧acc=.int .u64 (a:Int)∧r=gr i a (ys.drop i)∧a<128 ^ i
theorem zSF (A:Option Addr) (n c at_ B:Nat) (ys:List UInt8) (hc:¬ c=at_) (hn:n≤1073741824) (hat:at_≤n) (w:World) (hr:zAD w B 1 (A.map (fun x =>x.add at_)) (n - at_) (ys.map bv)) :
  Calls Tryz.prog 163 #[.slice A n c,.int .i64 (at_:Int)] w fun e w' =>e=.returned (gres at_ (gr 0 0 ys))∧w=w':=by
 obtain ⟨A',hA⟩:∃ A',A'=A.map (fun x =>x.add at_):=⟨_,rfl⟩
 rw [← hA] at hr
 have HA:=yh hA
 clear hA
 obtain ⟨m,hm⟩:∃ m,m=n - at_:=⟨_,rfl⟩
 rw [← hm] at hr
 have HM:=yh hm
 clear hm
 obtain ⟨r,hr0⟩:∃ r,r=gr 0 0 ys:=⟨_,rfl⟩
 rw [← hr0]
 have HR:=yh hr0
 clear hr0
 have hd1:decide ((at_:Int)<0)=false:=decide_eq_false (by omega)
 have hd2:decide (n<at_)=false:=decide_eq_false (by omega)
 go_enter Tryz.func163,Tryz.ntmps163
 go_wp2
 rw [← HA.out,← HM.out]
 go_loop [4,21] (fun acc idx =>GRel m r ys acc idx) (fun _ idx =>m - (intOf idx).toNat)
 case atStart =>exact ⟨0,0,by omega,by omega,rfl,rfl,HR.out,by simp⟩
 case round =>
  obtain ⟨i,a,him,hi9,rfl,rfl,hG,hL⟩:=hrel
  have HG:=yh hG
  have HL:=yh hL
  clear hG hL
  by_cases hlt:i<m
  ·obtain ⟨ad,u,rfl,_,hx,hcell⟩:=hr.at_ hlt
   obtain ⟨x,rfl,hd⟩:=zKu hx
   obtain ⟨v,hv⟩:∃ v,v=x.toNat:=⟨_,rfl⟩
   have hv256:v<256:=by rw [hv];exact x.toNat_lt
   have HG':Hid (r=gr i a (x :: ys.drop (i+1))):=by rw [← hd];exact HG.out
   clear HG hd hx
   rw [← hv] at hcell
   have HV:=yh hv
   clear hv
   by_cases hb:¬ (i=9∧1<v)∧(i=0∨v≠0)
   ·have HB:=yh hb
    clear hb
    by_cases h128:v<128
    ·go_wp2_with (go_at_call 179;refine (zLD i v hi9 HB.out _).mono ?_;rintro e w' ⟨rfl,rfl⟩)
     go_ret3
     have hr':r=(a+v * 128 ^ i,i+1,0):=by rw [HG'.out,HV.out,zGI (by rw [← HV.out];exact HB.out) (by rw [← HV.out];exact h128)]
     have hor:=zJg a v i hi9 HL.out (fun h9 =>by have:=HB.out.1;omega)
     rw [Nat.mod_eq_of_lt h128] at hor
     exact ⟨by rw [hor,hr',gres,zHK];simp [Int.add_assoc],rfl⟩
    ·have hor:=zJg a v i hi9 HL.out (fun h9 =>by have:=HB.out.1;omega)
     have HOR:=yh hor
     clear hor
     have hi8:i≤8:=by have:=HB.out.1;omega
     have HG2:Hid (r=gr (i+1) (a+v % 128 * 128 ^ i) (ys.drop (i+1))):=by
      show r=_
      rw [HG'.out,HV.out,zHN (by rw [← HV.out];exact HB.out) (by rw [← HV.out];exact h128)]
     have HL2:Hid (a+v % 128 * 128 ^ i<128 ^ (i+1)):=by
      show _<_
      have h1:=HL.out
      have h2:v % 128 * 128 ^ i≤127 * 128 ^ i:=Nat.mul_le_mul_right _ (by omega)
      rw [Nat.pow_succ];omega
     go_wp2_with (go_at_call 179;refine (zLD i v hi9 HB.out _).mono ?_;rintro e w' ⟨rfl,rfl⟩)
     rw [HOR.out]
     go_round
     case rel =>exact ⟨i+1,_,by omega,by omega,by go_num,rfl,HG2.out,HL2.out⟩
     case measure =>simp [intOf];omega
   ·have hr':Hid (r=(0,0,3)):=by
     show r=_
     rw [HG'.out,zJT (by rw [← HV.out];exact hb)]
    have HB:=yh hb
    clear hb
    go_wp2_with (go_at_call 179;refine (zSO i v hi9 HB.out _).mono ?_;rintro e w' ⟨rfl,rfl⟩)
    go_ret3
    exact ⟨by rw [hr'.out];rfl,rfl⟩
  ·obtain rfl:i=m:=by omega
   have hd:ys.drop i=[]:=List.drop_eq_nil_of_le (by have:=hr.1;simp at this;omega)
   have hr':Hid (r=(0,0,2)):=by
    show r=_
    rw [HG.out,hd,gr]
   clear hd HG
   go_wp2
   go_ret3
   exact ⟨by rw [hr'.out];rfl,rfl⟩
theorem zQw (A:Option Addr) (n:Nat) (hn:n≤1073741824) (w:World) :
  Calls Tryz.prog 163 #[.slice A n n,.int .i64 (n:Int)] w fun e w' =>e=.returned (gres n (gr 0 0 []))∧w=w':=by
 have hd1:decide ((n:Int)<0)=false:=decide_eq_false (by omega)
 have hd2:decide (n<n)=false:=decide_eq_false (by omega)
 go_enter Tryz.func163,Tryz.ntmps163
 go_wp2
 go_loop [21] (fun idx =>idx=.int .i64 0) (fun idx =>0)
 case atStart =>rfl
 case round =>
  obtain rfl:=hrel
  go_wp2
  go_ret3
  exact ⟨rfl,rfl⟩
theorem zKy (A:Option Addr) (n c at_ B:Nat) (bs:List UInt8) (hc:n≤c) (hn:n≤1073741824) (hat:at_≤n) (w:World) (hr:zAD w B 1 A n (bs.map bv)) :
  Calls Tryz.prog 163 #[.slice A n c,.int .i64 (at_:Int)] w fun e w' =>e=.returned (gres at_ (gr 0 0 (bs.drop at_)))∧w=w':=by
 by_cases h:c=at_
 ·obtain rfl:c=n:=by omega
  obtain rfl:at_=c:=h.symm
  have:bs.drop at_=[]:=List.drop_eq_nil_of_le (by have:=hr.1;simp at this;omega)
  rw [this]
  exact zQw A at_ hn w
 ·refine zSF A n c at_ B (bs.drop at_) h hn hat w ?_
  have:=hr.cut (cap:=c) hat hc
  rw [if_neg h,Nat.mul_one,← List.map_drop] at this
  exact this
structure Cu where
 bs:List UInt8
 at_:Nat
 e:Int
namespace Cu
def fail (c:Cu) (e:Int):Cu:=if c.e=0 then { c with e:=e } else c
def tk {α:Type} (zero:α) (c:Cu) (r:α×Nat×Nat):α×Cu :=
 if c.e=0 then (if r.2.2=0 then (r.1,{ c with at_:=r.2.1 }) else (zero,{ c with e:=(r.2.2:Int) })) else (zero,c)
def byR (c:Cu):UInt8×Nat×Nat:=match c.bs.drop c.at_ with
 | [] =>(0,0,2)
 | x :: _ =>(x,c.at_+1,0)
def nuR (c:Cu):Nat×Nat×Nat:=((gr 0 0 (c.bs.drop c.at_)).1,zHK c.at_ (gr 0 0 (c.bs.drop c.at_)),(gr 0 0 (c.bs.drop c.at_)).2.2)
def txR (c:Cu) (most:Int):List UInt8×Nat×Nat:=bg most c.at_ c.bs
def byte (c:Cu):UInt8×Cu:=tk 0 c c.byR
def num (c:Cu):Nat×Cu:=tk 0 c c.nuR
def text (c:Cu) (most:Int):List UInt8×Cu:=tk [] c (c.txR most)
def cnt (c:Cu) (most:Int):Nat×Cu:=if max most 0<(c.num.1:Int) then (0,c.num.2.fail 5) else (c.num.1,c.num.2)
def many {α:Type} (one:Cu→α×Cu):Nat→Cu→List α×Cu
 | 0,c =>([],c)
 | k+1,c =>if c.e=0 then ((one c).1 :: (many one k (one c).2).1,(many one k (one c).2).2) else ([],c)
def all {α:Type} (one:Cu→α×Cu) (c:Cu) (most:Int):List α×Cu :=
 (if (many one (c.cnt most).1 (c.cnt most).2).2.e=0 then (many one (c.cnt most).1 (c.cnt most).2).1 else [],(many one (c.cnt most).1 (c.cnt most).2).2)
def nums (c:Cu) (most:Int):List Nat×Cu:=all num c most
def txt (each:Int) (c:Cu):List UInt8×Cu:=c.text each
def texts (c:Cu) (most each:Int):List (List UInt8)×Cu:=all (txt each) c most
def ok (c:Cu):Prop:=c.at_≤c.bs.length
structure To (c d:Cu):Prop where
 bs:d.bs=c.bs
 le:c.at_≤d.at_
 ok:d.at_≤c.bs.length
 stay:c.e≠0→d=c
theorem To.refl {c:Cu} (h:c.ok):To c c:=⟨rfl,Nat.le_refl _,h,fun _ =>rfl⟩
theorem To.trans {a b c:Cu} (h:To a b) (k:To b c):To a c :=
 ⟨k.bs.trans h.bs,Nat.le_trans h.le k.le,by rw [← h.bs];exact k.ok,fun he =>by
  have h1:=h.stay he
  subst h1
  exact k.stay he⟩
theorem To.good {c d:Cu} (h:To c d):d.ok:=by
 have:=h.ok
 rwa [← h.bs] at this
theorem byR_in {c:Cu} (hb:c.ok):c.byR.2.2=0→c.at_<c.byR.2.1∧c.byR.2.1≤c.bs.length:=by
 intro h
 unfold byR at *
 split at h
 ·cases h
 ·rename_i x l hx
  have:=congrArg List.length hx
  simp at this
  unfold ok at hb
  exact ⟨by simp,by simp only;omega⟩
theorem nuR_in {c:Cu} (hb:c.ok):c.nuR.2.2=0→c.at_<c.nuR.2.1∧c.nuR.2.1≤c.bs.length:=by
 intro h
 unfold nuR at *
 simp only at *
 obtain ⟨n,k,hg⟩:∃ n k,gr 0 0 (c.bs.drop c.at_)=(n,k,0):=by
  rcases zDW (c.bs.drop c.at_) 0 0 with hg | hg | hg
  ·rw [hg] at h;cases h
  ·rw [hg] at h;cases h
  ·exact hg
 obtain ⟨_,h1,h2,_⟩:=zHM hg
 rw [hg,zHK,if_pos rfl]
 rw [List.length_drop] at h2
 unfold ok at hb
 exact ⟨by simp only;omega,by simp only;omega⟩
theorem txR_in {c:Cu} (most:Int):(c.txR most).2.2=0→c.at_<(c.txR most).2.1∧(c.txR most).2.1≤c.bs.length:=by
 intro h
 unfold txR at *
 obtain ⟨s,nx,hg⟩:∃ s nx,bg most c.at_ c.bs=(s,nx,0):=by
  rcases zHk (most:=most) (at_:=c.at_) (bs:=c.bs) with hg | hg | hg | hg
  ·rw [hg] at h;cases h
  ·rw [hg] at h;cases h
  ·rw [hg] at h;cases h
  ·exact hg
 have:=zJB hg
 rw [hg]
 exact ⟨this.1,this.2.1⟩
theorem tk_e {α:Type} {zero:α} {c:Cu} {r:α×Nat×Nat} (h:c.e≠0):tk zero c r=(zero,c):=by rw [tk,if_neg h]
theorem num_lt {c:Cu}:c.num.1<top:=by
 unfold num tk
 split
 ·split
  ·rename_i h1
   unfold nuR at *
   simp only at *
   rcases zDW (c.bs.drop c.at_) 0 0 with hg | hg | ⟨n,k,hg⟩
   ·rw [hg];decide
   ·rw [hg];decide
   ·rw [hg];exact (zHM hg).1
  ·exact (by decide:0<top)
 ·exact (by decide:0<top)
theorem many_stop {α:Type} {one:Cu→α×Cu} {k:Nat} {c:Cu} (h:c.e≠0):many one k c=([],c):=by
 cases k with
 | zero =>rfl
 | succ k =>rw [many,if_neg h]
theorem many_next {α:Type} {one:Cu→α×Cu} {k:Nat} {c:Cu} (h:c.e=0):many one (k+1) c=((one c).1 :: (many one k (one c).2).1,(many one k (one c).2).2):=by
 rw [many,if_pos h]
end Cu
open Go.RowKit
structure Only (b:Nat) (w w':World):Prop where
 os:w'.os=w.os
 tape:w'.tape=w.tape
 output:w'.output=w.output
 size:w.heap.size≤w'.heap.size
 block:∀ k,k<w.heap.size→k≠b→w'.heap[k]? = w.heap[k]?
theorem Only.refl (b:Nat) (w:World):Only b w w:=⟨rfl,rfl,rfl,Nat.le_refl _,fun _ _ _ =>rfl⟩
theorem Only.trans {b:Nat} {x y z:World} (h:Only b x y) (k:Only b y z):Only b x z :=
 ⟨k.os.trans h.os,k.tape.trans h.tape,k.output.trans h.output,Nat.le_trans h.size k.size,fun i hi hn =>(k.block i (Nat.lt_of_lt_of_le hi h.size) hn).trans (h.block i hi hn)⟩
theorem Only.of_below {b:Nat} {w w':World} (h:Below w.heap.size w w'):Only b w w':=⟨h.os,h.tape,h.output,h.size,fun k hk _ =>h.block k hk⟩
theorem Only.setCell {b i:Nat} {w:World} (u:Value):Only b w (w.setCell ⟨b,i,none⟩ u) :=
 ⟨rfl,rfl,rfl,by simp [World.setCell],fun _ _ hn =>Below.heap_setCell _ _ _ _ hn⟩
theorem Only.below {b B:Nat} {w w':World} (h:Only b w w') (hB:B≤b) (hw:B≤w.heap.size):Below B w w' :=
 ⟨h.os,h.tape,h.output,h.size,fun k hk =>h.block k (by omega) (by omega)⟩
theorem zEc {w:World} {b i:Nat} {cs:Array Value} {t:TypeId} {u:Value} (h:w.heap[b]? = some (.cells cs t (0,0))) (hi:cs[i]? = some u):w.cell? ⟨b,i,none⟩=some u:=by
 simp [World.cell?,h,hi]
theorem zGU {w:World} {b i:Nat} {cs:Array Value} {t:TypeId} (h:w.heap[b]? = some (.cells cs t (0,0))):w.frozen? ⟨b,i,none⟩=false:=by
 simp [World.frozen?,h]
def zHo (A:Option Addr) (n cap:Nat) (c:Cu):Array Value:=#[.slice A n cap,.int .i64 (c.at_:Int),.int .i64 c.e]
structure zAq (w:World) (B b:Nat) (c:Cu):Prop where
 ok:c.ok
 room:c.bs.length≤1000000
 le:B≤b
 lies:∃ A n cap,n≤cap∧zAD w B 1 A n (c.bs.map bv)∧w.heap[b]? = some (.cells (zHo A n cap c) 224 (0,0))
theorem zAq.lt {w:World} {B b:Nat} {c:Cu} (h:zAq w B b c):b<w.heap.size:=by
 obtain ⟨A,n,cap,_,_,h1⟩:=h.lies
 exact lt_of_block h1
theorem zAq.below {w w':World} {B b D:Nat} {c:Cu} (h:zAq w B b c) (hb:Below D w w') (hD:b<D):zAq w' B b c:=by
 obtain ⟨A,n,cap,h0,h1,h2⟩:=h.lies
 exact ⟨h.ok,h.room,h.le,A,n,cap,h0,h1.below (hb.mono (by have:=h.le;omega)),(hb.block b hD).trans h2⟩
theorem zAq.cells {w:World} {B b:Nat} {c:Cu} (h:zAq w B b c):∃ A n cap,n≤cap∧c.bs.length=n∧zAD w B 1 A n (c.bs.map bv)∧w.cell? ⟨b,0,none⟩=some (.slice A n cap) ∧
  w.cell? ⟨b,1,none⟩=some (.int .i64 (c.at_:Int))∧w.cell? ⟨b,2,none⟩=some (.int .i64 c.e)∧w.frozen? ⟨b,1,none⟩=false∧w.frozen? ⟨b,2,none⟩=false:=by
 obtain ⟨A,n,cap,h0,h1,h2⟩:=h.lies
 exact ⟨A,n,cap,h0,by have:=h1.1;simpa using this,h1,zEc h2 rfl,zEc h2 rfl,zEc h2 rfl,zGU h2,zGU h2⟩
theorem zAq.setE {w:World} {B b:Nat} {c:Cu} (h:zAq w B b c) (e:Int):zAq (w.setCell ⟨b,2,none⟩ (.int .i64 e)) B b { c with e:=e }:=by
 obtain ⟨A,n,cap,h0,h1,h2⟩:=h.lies
 exact ⟨h.ok,h.room,h.le,A,n,cap,h0,h1.setCell (p:=⟨b,2,none⟩) h.le _,heap_setCell_same _ _ 2 _ _ _ h2⟩
theorem zAq.setAt {w:World} {B b:Nat} {c:Cu} (h:zAq w B b c) (at_:Nat) (hat:at_≤c.bs.length):zAq (w.setCell ⟨b,1,none⟩ (.int .i64 (at_:Int))) B b { c with at_:=at_ }:=by
 obtain ⟨A,n,cap,h0,h1,h2⟩:=h.lies
 exact ⟨hat,h.room,h.le,A,n,cap,h0,h1.setCell (p:=⟨b,1,none⟩) h.le _,heap_setCell_same _ _ 1 _ _ _ h2⟩
theorem zEx (B b:Nat) (c:Cu) (e0:Int) (w:World) (h:zAq w B b c) :
  Calls Tryz.prog 165 #[.pointer (some ⟨b,0,none⟩),.int .i64 e0] w fun e w' =>e=.returned (.tuple #[])∧zAq w' B b (c.fail e0)∧Only b w w':=by
 obtain ⟨A,n,cap,_,_,_,_,_,f2,_,z2⟩:=h.cells
 have hs:=h.setE e0
 have ho:=Only.setCell (b:=b) (i:=2) (w:=w) (.int .i64 e0)
 have H:=yh h
 have HS:=yh hs
 have HO:=yh ho
 clear hs ho h
 by_cases h0:c.e=0
 ·have hf:c.fail e0={ c with e:=e0 }:=by rw [Cu.fail,if_pos h0]
  rw [hf]
  rw [h0] at f2
  clear hf h0
  go_enter Tryz.func165,Tryz.ntmps165
  go_wp2
  go_end0
  exact ⟨rfl,HS.out,HO.out⟩
 ·have hf:c.fail e0=c:=by rw [Cu.fail,if_neg h0]
  rw [hf]
  clear hf
  generalize c.e=x at f2 h0
  go_enter Tryz.func165,Tryz.ntmps165
  go_wp2
  go_end0
  exact ⟨rfl,H.out,Only.refl _ _⟩
attribute [local go_sem] Oper.semAt_some
def bres (r:List UInt8×Nat×Nat):Value:=.tuple #[.string (tx r.1),.int .i64 (r.2.1:Int),.int .i64 (r.2.2:Int)]
theorem zJD (A:Option Addr) (n c:Nat) (at_ most:Int) (e0:Nat) (he:e0=1∨e0=2∨e0=3) (w:World)
  (h:Calls Tryz.prog 163 #[.slice A n c,.int .i64 at_] w fun e w' =>e=.returned (.tuple #[.int .u64 0,.int .i64 0,.int .i64 (e0:Int)])∧w=w') :
  Calls Tryz.prog 137 #[.slice A n c,.int .i64 at_,.int .i64 most] w fun e w' =>e=.returned (bres ([],0,e0))∧w=w':=by
 have H:=yh h
 clear h
 rcases he with rfl | rfl | rfl
 all_goals
  go_enter Tryz.func137,Tryz.ntmps137
  go_wp2_with (go_at_call 163;refine H.out.mono ?_;rintro e w' ⟨rfl,rfl⟩)
  go_ret3
  exact ⟨rfl,rfl⟩
theorem zQl (A:Option Addr) (n c at_ m k:Nat) (most:Int) (B:Nat) (bs:List UInt8) (hc:n≤c) (hn:n≤1073741824) (hmost:most<9223372036854775808) (hm:m<top) (hk:1≤k) (hkn:at_+k≤n) (hg:gr 0 0 (bs.drop at_)=(m,k,0)) (w:World) (hr:zAD w B 1 A n (bs.map bv))
  (h:Calls Tryz.prog 163 #[.slice A n c,.int .i64 (at_:Int)] w fun e w' =>e=.returned (.tuple #[.int .u64 (m:Int),.int .i64 ((at_+k:Nat):Int),.int .i64 0])∧w=w') :
  Calls Tryz.prog 137 #[.slice A n c,.int .i64 (at_:Int),.int .i64 most] w fun e w' =>e=.returned (bres (bg most at_ bs))∧w=w':=by
 obtain ⟨f,hf⟩:∃ f,f=at_+k:=⟨_,rfl⟩
 rw [← hf] at h hkn
 have hf1:1≤f:=by omega
 have hl:bs.length=n:=by have:=hr.1;simpa using this
 have hM:(most<0∧max most 0=0)∨(¬ most<0∧max most 0=most):=by omega
 obtain ⟨M,hMM⟩:∃ M,M=max most 0:=⟨_,rfl⟩
 have H:=yh h
 have HF:=yh hf
 have HG:=yh hg
 have HL:=yh hl
 have HM:=yh hm
 clear h hf hg hl hm
 have hw:IntKind.u64.wrap M=M:=by rw [IntKind.wrap_u64];omega
 have HMM:=yh hMM
 rw [← hMM] at hM
 clear hMM
 have hw2:IntKind.u64.wrap ((n:Int) - (f:Int))=((n - f:Nat):Int):=by rw [IntKind.wrap_u64];omega
 by_cases h1:M<(m:Int)
 ·have hres:Hid (bg most at_ bs=([],0,5)):=zEu HG.out (by rw [← HMM.out];exact h1)
  rcases hM with ⟨hM0,hM1⟩ | ⟨hM0,hM1⟩
  all_goals
   subst hM1
   clear HMM
   go_enter Tryz.func137,Tryz.ntmps137
   go_wp2_with (go_at_call 163;refine H.out.mono ?_;rintro e w' ⟨rfl,rfl⟩)
   go_ret3
   exact ⟨by rw [hres.out];rfl,rfl⟩
 ·by_cases h2:n - f<m
  ·have hres:Hid (bg most at_ bs=([],0,2)):=zEH HG.out (by rw [← HMM.out];exact h1) (by rw [HL.out,← HF.out];exact h2)
   rcases hM with ⟨hM0,hM1⟩ | ⟨hM0,hM1⟩
   ·exact absurd h2 (by omega)
   ·subst hM1
    clear HMM
    go_enter Tryz.func137,Tryz.ntmps137
    go_wp2_with (go_at_call 163;refine H.out.mono ?_;rintro e w' ⟨rfl,rfl⟩)
    go_ret3
    exact ⟨by rw [hres.out];rfl,rfl⟩
  ·have hres:Hid (bg most at_ bs=((bs.drop f).take m,f+m,0)):=by
    have:=zGz HG.out (by rw [← HMM.out];exact h1) (by rw [HL.out,← HF.out];exact h2)
    rwa [← HF.out] at this
   have hw3:IntKind.i64.wrap (m:Int)=(m:Int):=by rw [IntKind.wrap_i64];omega
   have hle:f+m≤n:=by omega
   have hle2:f+m≤c:=by omega
   obtain ⟨nx,hnx⟩:∃ nx,nx=f+m:=⟨_,rfl⟩
   have hnx':(f:Int)+(m:Int)=(nx:Int):=by omega
   have hsub:nx - f=m:=by omega
   rw [← hnx] at hle hle2 hres
   have hfn:f≤nx:=by omega
   have HNX:=yh hnx
   clear hnx
   by_cases hcf:c=f
   ·subst hcf
    have hm0:m=0:=by have:=HNX.out;omega
    subst hm0
    obtain rfl:nx=c:=by have:=HNX.out;omega
    have hcv:(convert 59 9 (.slice A 0 0)).run Tryz.prog w=.ok (.string (tx [])) w:=zBV (bs:=[]) Tryz.underlying59 Tryz.underlying5 Tryz.underlying9 (hr.take (k:=0) (by omega))
    rcases hM with ⟨hM0,hM1⟩ | ⟨hM0,hM1⟩
    all_goals
     subst hM1
     clear HMM
     go_enter Tryz.func137,Tryz.ntmps137
     go_wp2_with (go_at_call 163;refine H.out.mono ?_;rintro e w' ⟨rfl,rfl⟩)
     go_ret3
     exact ⟨by rw [hres.out];rfl,rfl⟩
   ·have hcv:(convert 59 9 (.slice (A.map (fun x =>x.add f)) m (c - f))).run Tryz.prog w=.ok (.string (tx ((bs.drop f).take m))) w:=by
     have h1:=hr.cut (cap:=c) (k:=f) (by omega) hc
     rw [if_neg hcf,Nat.mul_one,← List.map_drop] at h1
     have h2:=h1.take (k:=m) (by omega)
     rw [← List.map_take] at h2
     exact zBV Tryz.underlying59 Tryz.underlying5 Tryz.underlying9 h2
    rcases hM with ⟨hM0,hM1⟩ | ⟨hM0,hM1⟩
    all_goals
     subst hM1
     clear HMM
     go_enter Tryz.func137,Tryz.ntmps137
     go_wp2_with (go_at_call 163;refine H.out.mono ?_;rintro e w' ⟨rfl,rfl⟩)
     go_ret3
     exact ⟨by rw [hres.out];rfl,rfl⟩
theorem zJC (A:Option Addr) (n c at_:Nat) (most:Int) (B:Nat) (bs:List UInt8) (hc:n≤c) (hn:n≤1073741824) (hmost:most<9223372036854775808) (hat:at_≤n) (w:World) (hr:zAD w B 1 A n (bs.map bv)) :
  Calls Tryz.prog 137 #[.slice A n c,.int .i64 (at_:Int),.int .i64 most] w fun e w' =>e=.returned (bres (bg most at_ bs))∧w=w':=by
 have h:=zKy A n c at_ B bs hc hn hat w hr
 have hl:bs.length=n:=by have:=hr.1;simpa using this
 rcases zDW (bs.drop at_) 0 0 with hg | hg | ⟨m,k,hg⟩
 ·rw [hg] at h
  have hb:bg most at_ bs=([],0,2):=zDl hg (by decide)
  rw [hb]
  exact zJD A n c at_ most 2 (by omega) w h
 ·rw [hg] at h
  have hb:bg most at_ bs=([],0,3):=zDl hg (by decide)
  rw [hb]
  exact zJD A n c at_ most 3 (by omega) w h
 ·obtain ⟨hm,hk1,hk2,_⟩:=zHM hg
  rw [List.length_drop] at hk2
  rw [hg] at h
  exact zQl A n c at_ m k most B bs hc hn hmost hm hk1 (by omega) hg w hr h
end Go.Proofs.YtekchkfjgofnkaaGreatDoor
