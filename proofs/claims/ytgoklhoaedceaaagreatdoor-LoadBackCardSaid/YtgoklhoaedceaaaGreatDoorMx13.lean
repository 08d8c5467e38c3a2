/- Texts of one proof. -/
import Derived.Test.YtgoklhoaedceaaaGreatDoorMx12
set_option maxRecDepth 100000
set_option maxHeartbeats 8000000
namespace Go.Proofs.YtgoklhoaedceaaaGreatDoor
open Go.RowKit
theorem zFm (v:Int) (r:Rc) (A:Option Addr) (n c:Nat) (l:List Dp) (hn:n≤100000) (hfit:Fits r l) (w:World) (h:zAE w w.heap.size 3 A n (dps l)) :
  Calls Tryz.prog 63 #[.int .i64 v,rcv r A n c] w fun e w' =>zAX (MayP v r l) e∧Below w.heap.size w w':=by
 have HL:Hid (l.length=n):=by have:=h.1;rw [zAd] at this;show _=_;omega
 have H1:=yh h
 have H0:=yh (zAI w (.cells (zAO r A n c) 37))
 have HB0:=yh ((Below.refl w.heap.size w).alloc (Nat.le_refl _) (.cells (zAO r A n c) 37))
 have HS0:Hid (w.heap.size<(w.alloc (.cells (zAO r A n c) 37)).heap.size):=by show w.heap.size<_;simp
 obtain ⟨k,t,u,o,m,g⟩:=r
 have hst:=zAk t
 have hsg:=zAk g
 obtain ⟨hft,hfg,hfd⟩:=hfit
 have HFD:=yh hfd
 have HNAME:=yh (zBU t)
 have q0:=zAA (i:=0) H0.out rfl
 have q1:=zAA (i:=1) H0.out rfl
 have q2:=zAA (i:=2) H0.out rfl
 have q3:=zAA (i:=3) H0.out rfl
 have q4:=zAA (i:=4) H0.out rfl
 have q5:=zAA (i:=5) H0.out rfl
 have q6:=zAA (i:=6) H0.out rfl
 unfold maxLen at hft hfg
 simp only at hft hfg
 have HH:=yh h
 have HFIT:Hid (Fits ⟨k,t,u,o,m,g⟩ l):=⟨hft,hfg,hfd⟩
 clear h hfd
 unfold zAO at *
 unfold rcv rsv at *
 by_cases hv1:v<1
 ·have d1:decide (v<1)=true:=decide_eq_true hv1
  have HP:Hid (¬ MayP v ⟨k,t,u,o,m,g⟩ l):=fun h =>by have:=h.1;omega
  go_enter Tryz.func63,Tryz.ntmps63
  go_wp2
  go_ret
  exact ⟨zAF HP.out,HB0.out⟩
 have d1:decide (v<1)=false:=decide_eq_false hv1
 by_cases hv3:3<v
 ·have d3:decide (v > 3)=true:=decide_eq_true hv3
  have HP:Hid (¬ MayP v ⟨k,t,u,o,m,g⟩ l):=fun h =>by have:=h.2.1;omega
  go_enter Tryz.func63,Tryz.ntmps63
  go_wp2
  go_ret
  exact ⟨zAF HP.out,HB0.out⟩
 have d3:decide (v > 3)=false:=decide_eq_false hv3
 cases hq:zAf t
 ·rw [hq] at HNAME
  have HP:Hid (¬ MayP v ⟨k,t,u,o,m,g⟩ l):=fun h =>by have h2:zAf t=true:=h.2.2.1;rw [hq] at h2;cases h2
  go_enter Tryz.func63,Tryz.ntmps63
  go_wp2_with (go_at_call 87;refine (HNAME.out _).mono ?_;rintro e w2 ⟨rfl,rfl⟩)
  go_ret
  exact ⟨zAF HP.out,HB0.out⟩
 rw [hq] at HNAME
 by_cases hk2:k=2
 ·subst hk2
  by_cases hu:u=0
  ·subst hu
   by_cases hn0:n=0
   ·subst hn0
    by_cases ho:o=0
    ·subst ho
     by_cases hm:m=0
     ·subst hm
      by_cases hg:g=[]
      ·subst hg
       have he:(tx ([]:List UInt8)).toList=[]:=by simp [tx]
       have HP:Hid (MayP v ⟨2,t,0,0,0,[]⟩ l):=⟨by omega,by omega,hq,.inr ⟨rfl,rfl,List.eq_nil_of_length_eq_zero HL.out⟩⟩
       go_enter Tryz.func63,Tryz.ntmps63
       go_wp2_with (go_at_call 87;refine (HNAME.out _).mono ?_;rintro e w2 ⟨rfl,rfl⟩)
       go_ret
       exact ⟨zAq HP.out,HB0.out⟩
      ·have he:=zCM g hg
       have HP:Hid (¬ MayP v ⟨2,t,0,0,0,g⟩ l):=fun h =>by rcases h.2.2.2 with h | h;exact absurd h.1 (by simp);have h2:=h.2;exact hg (by have h3:=h2.1;injection h3)
       go_enter Tryz.func63,Tryz.ntmps63
       go_wp2_with (go_at_call 87;refine (HNAME.out _).mono ?_;rintro e w2 ⟨rfl,rfl⟩)
       go_ret
       exact ⟨zAF HP.out,HB0.out⟩
     ·have em:decide (m=0)=false:=decide_eq_false hm
      have fm:(m == 0)=false:=by rw [beq_eq_false_iff_ne];exact hm
      have HP:Hid (¬ MayP v ⟨2,t,0,0,m,g⟩ l):=fun h =>by rcases h.2.2.2 with h | h;exact absurd h.1 (by simp);have h2:=h.2;exact hm (by have h3:=h2.1;injection h3)
      go_enter Tryz.func63,Tryz.ntmps63
      go_wp2_with (go_at_call 87;refine (HNAME.out _).mono ?_;rintro e w2 ⟨rfl,rfl⟩)
      go_ret
      exact ⟨zAF HP.out,HB0.out⟩
    ·have eo:decide (o=0)=false:=decide_eq_false ho
     have fo:(o == 0)=false:=by rw [beq_eq_false_iff_ne];exact ho
     have HP:Hid (¬ MayP v ⟨2,t,0,o,m,g⟩ l):=fun h =>by rcases h.2.2.2 with h | h;exact absurd h.1 (by simp);have h2:=h.2;exact ho (by have h3:=h2.1;injection h3)
     go_enter Tryz.func63,Tryz.ntmps63
     go_wp2_with (go_at_call 87;refine (HNAME.out _).mono ?_;rintro e w2 ⟨rfl,rfl⟩)
     go_ret
     exact ⟨zAF HP.out,HB0.out⟩
   ·have e6:decide ((n:Int)=0)=false:=decide_eq_false (by omega)
    have f6:((n:Int) == 0)=false:=by rw [beq_eq_false_iff_ne];omega
    have HP:Hid (¬ MayP v ⟨2,t,0,o,m,g⟩ l):=fun h =>by rcases h.2.2.2 with h | h;exact absurd h.1 (by simp);have h2:=h.2;exact hn0 (by rw [← HL.out,h2.2];rfl)
    go_enter Tryz.func63,Tryz.ntmps63
    go_wp2_with (go_at_call 87;refine (HNAME.out _).mono ?_;rintro e w2 ⟨rfl,rfl⟩)
    go_ret
    exact ⟨zAF HP.out,HB0.out⟩
  ·have eu:decide (u=0)=false:=decide_eq_false hu
   have fu:(u == 0)=false:=by rw [beq_eq_false_iff_ne];exact hu
   have HP:Hid (¬ MayP v ⟨2,t,u,o,m,g⟩ l):=fun h =>by rcases h.2.2.2 with h | h;exact absurd h.1 (by simp);have h2:=h.2;exact hu (by have h3:=h2.1;injection h3)
   go_enter Tryz.func63,Tryz.ntmps63
   go_wp2_with (go_at_call 87;refine (HNAME.out _).mono ?_;rintro e w2 ⟨rfl,rfl⟩)
   go_ret
   exact ⟨zAF HP.out,HB0.out⟩
 have dk2:decide (k=2)=false:=decide_eq_false hk2
 have ek2:(k == 2)=false:=by rw [beq_eq_false_iff_ne];exact hk2
 by_cases hk1:k=1
 ·subst hk1
  clear hk2 dk2 ek2
  by_cases h16:16<n
  ·have d16:decide ((n:Int) > 16)=true:=decide_eq_true (by omega)
   have HP:Hid (¬ MayP v ⟨1,t,u,o,m,g⟩ l):=fun h =>by rcases h.2.2.2 with h | h;have h3:=h.2.2.2.1;rw [HL.out] at h3;omega;exact absurd h.1 (by simp)
   go_enter Tryz.func63,Tryz.ntmps63
   go_wp2_with (go_at_call 87;refine (HNAME.out _).mono ?_;rintro e w2 ⟨rfl,rfl⟩)
   go_ret
   exact ⟨zAF HP.out,HB0.out⟩
  have d16:decide ((n:Int) > 16)=false:=decide_eq_false (by omega)
  obtain ⟨x,hx⟩:∃ x,x=g.length:=⟨_,rfl⟩
  rw [← hx] at hsg hfg
  have HX:=yh hx
  clear hx
  by_cases h64:64<x
  ·have d64:decide ((x:Int) > 64)=true:=decide_eq_true (by omega)
   have HP:Hid (¬ MayP v ⟨1,t,u,o,m,g⟩ l):=fun h =>by rcases h.2.2.2 with h | h;rcases h.2.2.1 with h3 | h3;(have h4:=HX.out;simp only at h3;rw [h3] at h4;simp at h4;omega);(have h4:=HX.out;have h5:=h3.2;simp only at h5;omega);exact absurd h.1 (by simp)
   go_enter Tryz.func63,Tryz.ntmps63
   go_wp2_with (go_at_call 87;refine (HNAME.out _).mono ?_;rintro e w2 ⟨rfl,rfl⟩)
   go_ret
   exact ⟨zAF HP.out,HB0.out⟩
  have d64:decide ((x:Int) > 64)=false:=decide_eq_false (by omega)
  by_cases hT:zCo v ⟨1,t,u,o,m,g⟩
  rotate_left
  ·have hm:m≠0:=fun h =>hT (.inl h)
   have hv:v=1:=by have h2:¬ 2≤v:=fun h =>hT (.inr h);omega
   subst hv
   have em:(m != 0)=true:=by rw [bne_iff_ne];exact hm
   have em2:decide (m=0)=false:=decide_eq_false hm
   have em3:(m == 0)=false:=by rw [beq_eq_false_iff_ne];exact hm
   have HP:Hid (¬ MayP 1 ⟨1,t,u,o,m,g⟩ l):=fun h =>by rcases h.2.2.2 with h | h;exact hT h.2.1;exact absurd h.1 (by simp)
   go_enter Tryz.func63,Tryz.ntmps63
   go_wp2_with (go_at_call 87;refine (HNAME.out _).mono ?_;rintro e w2 ⟨rfl,rfl⟩)
   go_ret
   exact ⟨zAF HP.out,HB0.out⟩
  by_cases hG:TagP v ⟨1,t,u,o,m,g⟩
  rotate_left
  ·have hg:g≠[]:=fun h =>hG (.inl h)
   have hv:v<3:=by
    rcases Int.lt_or_le v 3 with h3 | h3
    ·exact h3
    ·exact absurd (.inr ⟨h3,by have:=HX.out;simp only;omega⟩) hG
   have he:=zCM g hg
   have dv3:decide (v<3)=true:=decide_eq_true hv
   have HP:Hid (¬ MayP v ⟨1,t,u,o,m,g⟩ l):=fun h =>by rcases h.2.2.2 with h | h;exact hG h.2.2.1;exact absurd h.1 (by simp)
   by_cases hv1':v=1
   ·have hm:m=0:=by
     rcases hT with h | h
     ·exact h
     ·omega
    subst hv1';subst hm
    clear hT hG
    go_enter Tryz.func63,Tryz.ntmps63
    go_wp2_with (go_at_call 87;refine (HNAME.out _).mono ?_;rintro e w2 ⟨rfl,rfl⟩)
    go_ret
    exact ⟨zAF HP.out,HB0.out⟩
   ·have ev:decide (v=1)=false:=decide_eq_false hv1'
    have ev2:(v == 1)=false:=by rw [beq_eq_false_iff_ne];exact hv1'
    clear hT hG
    go_enter Tryz.func63,Tryz.ntmps63
    go_wp2_with (go_at_call 87;refine (HNAME.out _).mono ?_;rintro e w2 ⟨rfl,rfl⟩)
    go_ret
    exact ⟨zAF HP.out,HB0.out⟩
  rcases hG with hg | hg
  ·simp only at hg
   subst hg
   rcases hT with hm | hm
   ·simp only at hm
    subst hm
    by_cases hv1':v=1
    ·subst hv1'
     exact zKs t u o A n c l (by omega) HFIT.out hq (by omega) w HH.out
    ·by_cases hv2':v=2
     ·subst hv2'
      exact zHb t u o 0 A n c l (by omega) HFIT.out hq (by omega) w HH.out
     ·obtain rfl:v=3:=by omega
      exact zFH t u o 0 A n c l (by omega) HFIT.out hq (by omega) w HH.out
   ·by_cases hv2':v=2
    ·subst hv2'
     exact zHb t u o m A n c l (by omega) HFIT.out hq (by omega) w HH.out
    ·obtain rfl:v=3:=by omega
     exact zFH t u o m A n c l (by omega) HFIT.out hq (by omega) w HH.out
  ·obtain rfl:v=3:=by have:=hg.1;omega
   by_cases hge:g=[]
   ·subst hge
    exact zFH t u o m A n c l (by omega) HFIT.out hq (by omega) w HH.out
   ·exact zKt t u o m g A n c l (by omega) HFIT.out hq (by omega) hge hg.2 w HH.out
 ·have dk1:(k != 1)=true:=by rw [bne_iff_ne];exact hk1
  have dk3:decide (k=1)=false:=decide_eq_false hk1
  have dk4:(k == 1)=false:=by rw [beq_eq_false_iff_ne];exact hk1
  have HP:Hid (¬ MayP v ⟨k,t,u,o,m,g⟩ l):=fun h =>by rcases h.2.2.2 with h | h;exact hk1 h.1;exact hk2 h.1
  go_enter Tryz.func63,Tryz.ntmps63
  go_wp2_with (go_at_call 87;refine (HNAME.out _).mono ?_;rintro e w2 ⟨rfl,rfl⟩)
  go_ret
  exact ⟨zAF HP.out,HB0.out⟩
theorem zJv (v:Int) (r:Rc) (A:Option Addr) (n c:Nat) (l:List Dp) (hn:n≤1000) (hfit:Fits r l) (w:World) (h:zAE w w.heap.size 3 A n (dps l)) :
  Calls Tryz.prog 63 #[.int .i64 v,rcv r A n c] w fun e w' =>zAX (MayP v r l) e∧Below w.heap.size w w' :=
 zFm v r A n c l (by omega) hfit w h
theorem zIZ (t g:List UInt8) (zu zo zm:Nat):zAU (zAi t zu zo zm g)=eput t++[32]++hexl zu 16++[32]++hexl zo 16++[32]++Lib.decDigits zm++[32]++eput g:=by
 unfold zAi
 rw [zAm _ _ (by simp),zAm _ _ (by simp),zAm _ _ (by simp),zAm _ _ (by simp),zBL]
 simp
theorem zJL {ws:List (List UInt8)} (h:ws≠[]) (d:Dp):zAU (ws++zAe d)=zAU ws++[32]++eput d.name++[32]++zBE d:=by
 unfold zAe
 rw [show ws++[eput d.name,zBE d]=(ws++[eput d.name])++[zBE d] by simp,zDT _ _ (by simp),zDT _ _ h]
 simp
theorem zEK {t g:List UInt8} {zu zo zm i:Nat} {l:List Dp} (h:∀ x ∈ zAu t zu zo zm g l,x.length≤2000) (hl:l.length≤60):(zAU (zAi t zu zo zm g++(l.take i).flatMap zAe)).length≤260000:=by
 have h1:=zDU (zAi t zu zo zm g++(l.take i).flatMap zAe) (fun x hx =>by
  rcases List.mem_append.1 hx with hx | hx
  ·exact h x (List.mem_append.2 (.inl hx))
  ·obtain ⟨d,hd,hx⟩:=List.mem_flatMap.1 hx
   exact h x (List.mem_append.2 (.inr (List.mem_flatMap.2 ⟨d,List.mem_of_mem_take hd,hx⟩))))
 rw [List.length_append,zCr,List.length_take,show (zAi t zu zo zm g).length=5 from rfl] at h1
 omega
def zKK (w:World) (o:Obj) (hd:List (List UInt8)) (l:List Dp) (v4 v5:Value) (wr:World):Prop :=
 ∃ i:Nat,i≤l.length∧v5=.int .i64 (i:Int)∧v4=.string (tx (zAU (hd++(l.take i).flatMap zAe)))∧Below w.heap.size w wr∧wr.heap[w.heap.size]? = some o
theorem zJu (zu zo zm:Nat) (t g:List UInt8) (A:Option Addr) (n c:Nat) (l:List Dp) (hu:zu<18446744073709551616) (ho:zo<18446744073709551616) (hm:zm<18446744073709551616) (hds:∀ d ∈ l,0≤d.hash∧d.hash<18446744073709551616)
  (hmay:MayP 3 ⟨1,t,(zu:Int),(zo:Int),(zm:Int),g⟩ l) (hfit:Fits ⟨1,t,(zu:Int),(zo:Int),(zm:Int),g⟩ l) (hsm:zBF ⟨1,t,(zu:Int),(zo:Int),(zm:Int),g⟩ l) (w:World) (h:zAE w w.heap.size 3 A n (dps l)) :
  Calls Tryz.prog 38 #[.agg #[.int .i64 1,.string (tx t),.int .u64 (zu:Int),.slice A n c,.int .u64 (zo:Int),.int .u64 (zm:Int),.string (tx g)]] w fun e w' =>e=.returned (.tuple #[.string (tx (zAU (zAu t zu zo zm g l))),.int .i64 0])∧Below w.heap.size w w':=by
 have HL:Hid (l.length=n):=by have:=h.1;rw [zAd] at this;show _=_;omega
 obtain ⟨hs1,hs2,hs3,hs4⟩:=hsm
 simp only at hs3 hs4
 have hn60:n≤60:=by rw [← HL.out];exact hs2
 have H1:=yh h
 have HS1:=yh hs1
 have HDS:=yh hds
 have H0:=yh (zAI w (.cells #[.int .i64 1,.string (tx t),.int .u64 (zu:Int),.slice A n c,.int .u64 (zo:Int),.int .u64 (zm:Int),.string (tx g)] 37))
 have HB0:=yh ((Below.refl w.heap.size w).alloc (Nat.le_refl _) (.cells #[.int .i64 1,.string (tx t),.int .u64 (zu:Int),.slice A n c,.int .u64 (zo:Int),.int .u64 (zm:Int),.string (tx g)] 37))
 have HMAY:Hid (∀ W,Below w.heap.size w W→Calls Tryz.prog 63 #[.int .i64 3,.agg #[.int .i64 1,.string (tx t),.int .u64 (zu:Int),.slice A n c,.int .u64 (zo:Int),.int .u64 (zm:Int),.string (tx g)]] W fun e w' =>e=.returned (.bool true)∧Below W.heap.size W w'):=fun W hW =>
  (zJv 3 ⟨1,t,(zu:Int),(zo:Int),(zm:Int),g⟩ A n c l (by omega) hfit W ((H1.out.below hW).more hW.size)).mono fun e w' ⟨ht,hb⟩ =>⟨ht.yes hmay,hb⟩
 have p1:=zBX t
 have p2:=zBX g
 have p3:=zEz hm
 have p4:=zAr zu 16
 have p5:=zAr zo 16
 have HPT:=yh (fun W =>zEc t (by omega) W)
 have HPG:=yh (fun W =>zEc g (by omega) W)
 have hxs:∀ z:Nat,z<18446744073709551616→∀ W,Calls Tryz.prog 49 #[.int .u64 (z:Int)] W fun e w' =>e=.returned (.string (tx (hexl z 16)))∧W=w':=fun z hz W =>by
  have h:=zEt (BitVec.ofNat 64 z) W
  rw [zCi (show z<top by unfold top;omega),BitVec.toNat_ofNat,Nat.mod_eq_of_lt (show z<2 ^ 64 by omega)] at h
  exact h
 have HXU:=yh (hxs zu hu)
 have HXO:=yh (hxs zo ho)
 have HFM:=yh (fun W =>zEj zm hm W)
 have HHX:=yh hxs
 have HLL:=yh (fun i =>zEK (i:=i) (zDW (zu:=zu) (zo:=zo) hm hs3 hs4 hs1) hs2)
 have HLW:Hid (zAu t zu zo zm g l=zAi t zu zo zm g++l.flatMap zAe):=by show _=_;rfl
 have HJ0:=yh (zIZ t g zu zo zm)
 have HNE:Hid (∀ x:List (List UInt8),zAi t zu zo zm g++x≠[]):=fun x e =>by simp [zAi] at e
 have a1:∀ W:World,(Op.stringOp .add (tx (eput t)) ({ data:=#[32] })).run Tryz.prog W=.ok (.string (tx (eput t++[32]))) W:=fun W =>zAc W (eput t) ([32]) (by simp;omega)
 have a2:∀ W:World,(Op.stringOp .add (tx (eput t++[32])) (tx (hexl zu 16))).run Tryz.prog W=.ok (.string (tx (eput t++[32]++hexl zu 16))) W:=fun W =>zAc W (eput t++[32]) (hexl zu 16) (by simp [p4];omega)
 have a3:∀ W:World,(Op.stringOp .add (tx (eput t++[32]++hexl zu 16)) ({ data:=#[32] })).run Tryz.prog W=.ok (.string (tx (eput t++[32]++hexl zu 16++[32]))) W:=fun W =>zAc W (eput t++[32]++hexl zu 16) ([32]) (by simp [p4];omega)
 have a4:∀ W:World,(Op.stringOp .add (tx (eput t++[32]++hexl zu 16++[32])) (tx (hexl zo 16))).run Tryz.prog W=.ok (.string (tx (eput t++[32]++hexl zu 16++[32]++hexl zo 16))) W:=fun W =>zAc W (eput t++[32]++hexl zu 16++[32]) (hexl zo 16) (by simp [p4,p5];omega)
 have a5:∀ W:World,(Op.stringOp .add (tx (eput t++[32]++hexl zu 16++[32]++hexl zo 16)) ({ data:=#[32] })).run Tryz.prog W=.ok (.string (tx (eput t++[32]++hexl zu 16++[32]++hexl zo 16++[32]))) W:=fun W =>zAc W (eput t++[32]++hexl zu 16++[32]++hexl zo 16) ([32]) (by simp [p4,p5];omega)
 have a6:∀ W:World,(Op.stringOp .add (tx (eput t++[32]++hexl zu 16++[32]++hexl zo 16++[32])) (tx (Lib.decDigits zm))).run Tryz.prog W=.ok (.string (tx (eput t++[32]++hexl zu 16++[32]++hexl zo 16++[32]++Lib.decDigits zm))) W:=fun W =>zAc W (eput t++[32]++hexl zu 16++[32]++hexl zo 16++[32]) (Lib.decDigits zm) (by simp [p4,p5];omega)
 have a7:∀ W:World,(Op.stringOp .add (tx (eput t++[32]++hexl zu 16++[32]++hexl zo 16++[32]++Lib.decDigits zm)) ({ data:=#[32] })).run Tryz.prog W=.ok (.string (tx (eput t++[32]++hexl zu 16++[32]++hexl zo 16++[32]++Lib.decDigits zm++[32]))) W:=fun W =>zAc W (eput t++[32]++hexl zu 16++[32]++hexl zo 16++[32]++Lib.decDigits zm) ([32]) (by simp [p4,p5];omega)
 have a8:∀ W:World,(Op.stringOp .add (tx (eput t++[32]++hexl zu 16++[32]++hexl zo 16++[32]++Lib.decDigits zm++[32])) (tx (eput g))).run Tryz.prog W=.ok (.string (tx (eput t++[32]++hexl zu 16++[32]++hexl zo 16++[32]++Lib.decDigits zm++[32]++eput g))) W:=fun W =>zAc W (eput t++[32]++hexl zu 16++[32]++hexl zo 16++[32]++Lib.decDigits zm++[32]) (eput g) (by simp [p4,p5];omega)
 rw [HJ0.out.symm] at a8
 have HT0:Hid (tx (zAU (zAi t zu zo zm g++(l.take 0).flatMap zAe))=tx (zAU (zAi t zu zo zm g))):=by show _=_;simp
 clear p1 p2 p3 p4 p5
 generalize tx (eput t++[32]++hexl zu 16++[32]++hexl zo 16++[32]++Lib.decDigits zm++[32])=b7 at *
 generalize tx (eput t++[32]++hexl zu 16++[32]++hexl zo 16++[32]++Lib.decDigits zm)=b6 at *
 generalize tx (eput t++[32]++hexl zu 16++[32]++hexl zo 16++[32])=b5 at *
 generalize tx (eput t++[32]++hexl zu 16++[32]++hexl zo 16)=b4 at *
 generalize tx (eput t++[32]++hexl zu 16++[32])=b3 at *
 generalize tx (eput t++[32]++hexl zu 16)=b2 at *
 generalize tx (eput t++[32])=b1 at *
 generalize tx (zAU (zAi t zu zo zm g))=b8 at *
 generalize tx (eput t)=s1 at *
 generalize tx (hexl zu 16)=s2 at HXU a1 a2 a3 a4 a5 a6 a7 a8
 generalize tx (hexl zo 16)=s3 at HXO a1 a2 a3 a4 a5 a6 a7 a8
 generalize tx (Lib.decDigits zm)=s4 at *
 generalize tx (eput g)=s5 at *
 generalize zAu t zu zo zm g l=lws at *
 generalize zAi t zu zo zm g=hws at *
 generalize tx t=st at *
 generalize tx g=sg at *
 obtain ⟨jl,hjl0⟩:∃ jl,jl=tx (zAU lws):=⟨_,rfl⟩
 rw [← hjl0]
 have HJL:=yh hjl0
 clear hjl0
 have q0:=zAA (i:=0) H0.out rfl
 have q1:=zAA (i:=1) H0.out rfl
 have q2:=zAA (i:=2) H0.out rfl
 have q3:=zAA (i:=3) H0.out rfl
 have q4:=zAA (i:=4) H0.out rfl
 have q5:=zAA (i:=5) H0.out rfl
 have q6:=zAA (i:=6) H0.out rfl
 clear h hds hs1 hs2 hs3 hs4 hmay hfit hxs
 go_enter Tryz.func38,Tryz.ntmps38
 go_wp2_with fail
 refine (HMAY.out _ HB0.out).mono ?_
 rintro e w1 ⟨rfl,b1⟩
 have hr1:=(b1.block w.heap.size (Array.getElem?_eq_some_iff.1 H0.out).1).trans H0.out
 have HR5:Hid (w1.drew.heap[w.heap.size]? = some (.cells #[.int .i64 1,.string st,.int .u64 (zu:Int),.slice A n c,.int .u64 (zo:Int),.int .u64 (zm:Int),.string sg] 37 (0,0))):=hr1
 have HB5:Hid (Below w.heap.size w w1.drew):=(HB0.out.trans (b1.mono HB0.out.size)).drew
 clear b1 hr1 q0 q1 q2 q3 q4 q5 q6
 go_wp2_with fail
 refine wp_region_held (S:=fun W:World =>W.heap[w.heap.size]? = some (.cells #[.int .i64 1,.string st,.int .u64 (zu:Int),.slice A n c,.int .u64 (zo:Int),.int .u64 (zm:Int),.string sg] 37 (0,0))) (by kernel_rfl) ?_
 refine zAB 0 (.pointer (some ⟨w.heap.size,1,none⟩)) rfl (by kernel_rfl) (by kernel_rfl) (by kernel_rfl) (fun _ _ _ h =>h) (by kernel_rfl) HR5.out (fun _ _ =>by kernel_rfl) ?_
 refine zAB 1 (.string st) rfl (by kernel_rfl) (by kernel_rfl) (by kernel_rfl) (fun _ _ _ h =>h) (by kernel_rfl) HR5.out (by intro W hW;have z:=zAA (i:=1) hW rfl;go_simp) ?_
 refine zAB 4 (.pointer (some ⟨w.heap.size,2,none⟩)) rfl (by kernel_rfl) (by kernel_rfl) (by kernel_rfl) (fun _ _ _ h =>h) (by kernel_rfl) HR5.out (fun _ _ =>by kernel_rfl) ?_
 refine zAB 5 (.int .u64 (zu:Int)) rfl (by kernel_rfl) (by kernel_rfl) (by kernel_rfl) (fun _ _ _ h =>h) (by kernel_rfl) HR5.out (by intro W hW;have z:=zAA (i:=2) hW rfl;go_simp) ?_
 refine zAB 9 (.pointer (some ⟨w.heap.size,4,none⟩)) rfl (by kernel_rfl) (by kernel_rfl) (by kernel_rfl) (fun _ _ _ h =>h) (by kernel_rfl) HR5.out (fun _ _ =>by kernel_rfl) ?_
 refine zAB 10 (.int .u64 (zo:Int)) rfl (by kernel_rfl) (by kernel_rfl) (by kernel_rfl) (fun _ _ _ h =>h) (by kernel_rfl) HR5.out (by intro W hW;have z:=zAA (i:=4) hW rfl;go_simp) ?_
 refine zAB 14 (.pointer (some ⟨w.heap.size,5,none⟩)) rfl (by kernel_rfl) (by kernel_rfl) (by kernel_rfl) (fun _ _ _ h =>h) (by kernel_rfl) HR5.out (fun _ _ =>by kernel_rfl) ?_
 refine zAB 15 (.int .u64 (zm:Int)) rfl (by kernel_rfl) (by kernel_rfl) (by kernel_rfl) (fun _ _ _ h =>h) (by kernel_rfl) HR5.out (by intro W hW;have z:=zAA (i:=5) hW rfl;go_simp) ?_
 refine zAB 19 (.pointer (some ⟨w.heap.size,6,none⟩)) rfl (by kernel_rfl) (by kernel_rfl) (by kernel_rfl) (fun _ _ _ h =>h) (by kernel_rfl) HR5.out (fun _ _ =>by kernel_rfl) ?_
 refine zAB 20 (.string sg) rfl (by kernel_rfl) (by kernel_rfl) (by kernel_rfl) (fun _ _ _ h =>h) (by kernel_rfl) HR5.out (by intro W hW;have z:=zAA (i:=6) hW rfl;go_simp) ?_
 refine zAJ 2 rfl (by kernel_rfl) (by kernel_rfl) (fun K hK =>?_)
 go_simp
 refine (HPT.out _).mono ?_
 rintro e x6 ⟨rfl,b6⟩
 have HB6:=yh (HB5.out.trans (b6.mono HB5.out.size))
 have HR6:=yh ((b6.block w.heap.size (Array.getElem?_eq_some_iff.1 HR5.out).1).trans HR5.out)
 clear b6
 refine hK _ _ HR6.out ?_
 clear hK K
 refine zAB 3 (.string b1) rfl (by kernel_rfl) (by kernel_rfl) (by kernel_rfl) (fun _ _ _ h =>h) (by kernel_rfl) HR6.out (by intro v hv;go_simp) ?_
 refine zAJ 6 rfl (by kernel_rfl) (by kernel_rfl) (fun K hK =>?_)
 go_simp
 refine (HXU.out _).mono ?_
 rintro e wx ⟨rfl,rfl⟩
 refine hK _ _ HR6.out ?_
 clear hK K
 refine zAB 7 (.string b2) rfl (by kernel_rfl) (by kernel_rfl) (by kernel_rfl) (fun _ _ _ h =>h) (by kernel_rfl) HR6.out (by intro v hv;go_simp) ?_
 refine zAB 8 (.string b3) rfl (by kernel_rfl) (by kernel_rfl) (by kernel_rfl) (fun _ _ _ h =>h) (by kernel_rfl) HR6.out (by intro v hv;go_simp) ?_
 refine zAJ 11 rfl (by kernel_rfl) (by kernel_rfl) (fun K hK =>?_)
 go_simp
 refine (HXO.out _).mono ?_
 rintro e wx ⟨rfl,rfl⟩
 refine hK _ _ HR6.out ?_
 clear hK K
 refine zAB 12 (.string b4) rfl (by kernel_rfl) (by kernel_rfl) (by kernel_rfl) (fun _ _ _ h =>h) (by kernel_rfl) HR6.out (by intro v hv;go_simp) ?_
 refine zAB 13 (.string b5) rfl (by kernel_rfl) (by kernel_rfl) (by kernel_rfl) (fun _ _ _ h =>h) (by kernel_rfl) HR6.out (by intro v hv;go_simp) ?_
 refine zAJ 16 rfl (by kernel_rfl) (by kernel_rfl) (fun K hK =>?_)
 go_simp
 refine (HFM.out _).mono ?_
 rintro e wx ⟨rfl,rfl⟩
 refine hK _ _ HR6.out ?_
 clear hK K
 refine zAB 17 (.string b6) rfl (by kernel_rfl) (by kernel_rfl) (by kernel_rfl) (fun _ _ _ h =>h) (by kernel_rfl) HR6.out (by intro v hv;go_simp) ?_
 refine zAB 18 (.string b7) rfl (by kernel_rfl) (by kernel_rfl) (by kernel_rfl) (fun _ _ _ h =>h) (by kernel_rfl) HR6.out (by intro v hv;go_simp) ?_
 refine zAJ 21 rfl (by kernel_rfl) (by kernel_rfl) (fun K hK =>?_)
 go_simp
 refine (HPG.out _).mono ?_
 rintro e x7 ⟨rfl,b7⟩
 have HB7:=yh (HB6.out.trans (b7.mono HB6.out.size))
 have HR7:=yh ((b7.block w.heap.size (Array.getElem?_eq_some_iff.1 HR6.out).1).trans HR6.out)
 clear b7
 refine hK _ _ HR7.out ?_
 clear hK K
 refine zAB 22 (.string b8) rfl (by kernel_rfl) (by kernel_rfl) (by kernel_rfl) (fun _ _ _ h =>h) (by kernel_rfl) HR7.out (by intro v hv;go_simp) ?_
 refine zAB 23 (.string b8) rfl (by kernel_rfl) (by kernel_rfl) (by kernel_rfl) (fun _ _ _ h =>h) (by kernel_rfl) HR7.out (fun _ _ =>by kernel_rfl) ?_
 refine wpAnyH_done (by kernel_rfl) ?_ _
 go_simp
 have HI:Hid (zKK w (.cells #[.int .i64 1,.string st,.int .u64 (zu:Int),.slice A n c,.int .u64 (zo:Int),.int .u64 (zm:Int),.string sg] 37 (0,0)) hws l (.string b8) (.int .i64 0) x7):=⟨0,Nat.zero_le _,rfl,by rw [HT0.out],HB7.out,HR7.out⟩
 clear HB5 HR5 HB6 HR6 HB7 HR7 a1 a2 a3 a4 a5 a6 a7 a8
 go_wp2
 go_loopw [4,5] (fun v4 v5 wr =>zKK w (.cells #[.int .i64 1,.string st,.int .u64 (zu:Int),.slice A n c,.int .u64 (zo:Int),.int .u64 (zm:Int),.string sg] 37 (0,0)) hws l v4 v5 wr) (fun _ v5 _ =>n - (intOf v5).toNat)
 case atStart =>exact HI.out
 case round =>
  obtain ⟨i,hi,rfl,rfl,hb,hrec⟩:=hrel
  rw [HL.out] at hi
  have q3:=zAA (i:=3) hrec rfl
  have HBR:=yh hb
  have HRC:=yh hrec
  clear hb hrec HI
  by_cases hlt:i<n
  ·obtain ⟨x,hx⟩:∃ x,l[i]? = some x:=⟨_,List.getElem?_eq_getElem (by rw [HL.out];exact hlt)⟩
   obtain ⟨ad,rfl,hadl,hcx⟩:=(H1.out.below HBR.out).2 (by omega)
   obtain ⟨y0,y1,y2⟩:=zAt l i x hx
   have k0:=hcx _ _ y0
   have k1:=hcx _ _ y1
   have k2:=hcx _ _ y2
   rw [zBO] at k1
   rw [zBP] at k2
   have hxl:=HS1.out x (List.mem_of_getElem? hx)
   have hxd:=HDS.out x (List.mem_of_getElem? hx)
   have hj0:=HLL.out i
   have hsj:zAU (hws++(l.take (i+1)).flatMap zAe)=zAU (hws++(l.take i).flatMap zAe)++[32]++eput x.name++[32]++zBE x:=by
    rw [zEi hx,← List.append_assoc]
    exact zJL (HNE.out _) x
   obtain ⟨xn,xh,xo⟩:=x
   simp only at k0 k1 k2 hxl hxd hsj
   obtain ⟨z,rfl⟩:=Int.eq_ofNat_of_zero_le hxd.1
   have p1:=zBX xn
   have p4:=zAr z 16
   have HPN:=yh (fun W =>zEc xn (by omega) W)
   have HXZ:=yh (HHX.out z (by omega))
   have hhw:zBE ⟨xn,(z:Int),xo⟩=hexl z 16++(if xo then [33] else []):=rfl
   rw [hhw] at hsj
   obtain ⟨J,hJ⟩:∃ J,J=zAU (hws++(l.take i).flatMap zAe):=⟨_,rfl⟩
   rw [← hJ] at hj0 hsj ⊢
   have c1:∀ W:World,(Op.stringOp .add (tx J) { data:=#[32] }).run Tryz.prog W=.ok (.string (tx (J++[32]))) W:=fun W =>zAc W J [32] (by simp;omega)
   have c2:∀ W:World,(Op.stringOp .add (tx (J++[32])) (tx (eput xn))).run Tryz.prog W=.ok (.string (tx (J++[32]++eput xn))) W:=fun W =>zAc W _ _ (by simp;omega)
   have c3:∀ W:World,(Op.stringOp .add (tx (J++[32]++eput xn)) { data:=#[32] }).run Tryz.prog W=.ok (.string (tx (J++[32]++eput xn++[32]))) W:=fun W =>zAc W _ [32] (by simp;omega)
   have c4:∀ W:World,(Op.stringOp .add (tx (J++[32]++eput xn++[32])) (tx (hexl z 16))).run Tryz.prog W=.ok (.string (tx (J++[32]++eput xn++[32]++hexl z 16))) W:=fun W =>zAc W _ _ (by rw [p4];simp;omega)
   have c5:∀ W:World,(Op.stringOp .add (tx (J++[32]++eput xn++[32]++hexl z 16)) { data:=#[33] }).run Tryz.prog W=.ok (.string (tx (J++[32]++eput xn++[32]++hexl z 16++[33]))) W:=fun W =>zAc W _ [33] (by simp [p4];omega)
   have HSJ:=yh hsj
   unfold rsv at k0
   clear hsj hhw hJ hj0 p1 p4
   have e5:tx (J++[32]++eput xn++[32]++hexl z 16++[33])=tx (J++[32]++eput xn++[32]++(hexl z 16++[33])):=by simp
   have e4:tx (J++[32]++eput xn++[32]++hexl z 16)=tx (J++[32]++eput xn++[32]++(hexl z 16++[])):=by simp
   rw [e5] at c5
   rw [e4] at c4 c5
   have HT1:Hid (xo=true→tx (zAU (hws++(l.take (i+1)).flatMap zAe))=tx (J++[32]++eput xn++[32]++(hexl z 16++[33]))):=fun h =>by rw [HSJ.out,h];rfl
   have HT2:Hid (xo=false→tx (zAU (hws++(l.take (i+1)).flatMap zAe))=tx (J++[32]++eput xn++[32]++(hexl z 16++[]))):=fun h =>by rw [HSJ.out,h];rfl
   clear e4 e5 HSJ
   generalize tx (J++[32]++eput xn++[32]++(hexl z 16++[33]))=d5 at *
   generalize tx (J++[32]++eput xn++[32]++(hexl z 16++[]))=d4 at *
   generalize tx (J++[32]++eput xn++[32])=d3 at *
   generalize tx (J++[32]++eput xn)=d2 at *
   generalize tx (J++[32])=d1 at *
   generalize tx J=d0 at *
   generalize tx (eput xn)=p1 at *
   generalize tx (hexl z 16)=p2 at HXZ c1 c2 c3 c4 c5
   generalize tx xn=sn at *
   have hi0:(0:Int)≤(i:Int):=by omega
   have hi1:(i:Int)<(n:Int):=by omega
   have HK2:=yh k2
   have HK0:=yh k0
   have HK1:=yh k1
   have HAD:Hid (ad.block<wr.heap.size):=by have:=HBR.out.size;show _<_;omega
   have hS0:(wr.drew.heap[w.heap.size]? = some (.cells #[.int .i64 1,.string st,.int .u64 (zu:Int),.slice (some ad) n c,.int .u64 (zo:Int),.int .u64 (zm:Int),.string sg] 37 (0,0))∧wr.drew.cell? (ad.add (i * 3))=some (.string sn)∧wr.drew.cell? ⟨(ad.add (i * 3)).block,(ad.add (i * 3)).off+1,none⟩=some (.int .u64 (z:Int))):=⟨HRC.out,k0,k1⟩
   have HS0:=yh hS0
   clear hcx y0 y1 y2 hx hxl hxd hS0 k0 k1 k2
   go_wp2_with fail
   clear q3
   refine wp_region_held (S:=fun W:World =>W.heap[w.heap.size]? = some (.cells #[.int .i64 1,.string st,.int .u64 (zu:Int),.slice (some ad) n c,.int .u64 (zo:Int),.int .u64 (zm:Int),.string sg] 37 (0,0))∧W.cell? (ad.add (i * 3))=some (.string sn)∧W.cell? ⟨(ad.add (i * 3)).block,(ad.add (i * 3)).off+1,none⟩=some (.int .u64 (z:Int))) (by kernel_rfl) ?_
   refine zAB 0 (.string d0) rfl (by kernel_rfl) (by kernel_rfl) (by kernel_rfl) (fun _ _ _ h =>h) (by kernel_rfl) HS0.out (fun _ _ =>by kernel_rfl) ?_
   refine zAB 1 (.string d1) rfl (by kernel_rfl) (by kernel_rfl) (by kernel_rfl) (fun _ _ _ h =>h) (by kernel_rfl) HS0.out (by intro v hv;go_simp) ?_
   refine zAB 2 (.pointer (some ⟨w.heap.size,3,none⟩)) rfl (by kernel_rfl) (by kernel_rfl) (by kernel_rfl) (fun _ _ _ h =>h) (by kernel_rfl) HS0.out (fun _ _ =>by kernel_rfl) ?_
   refine zAB 3 (.slice (some ad) n c) rfl (by kernel_rfl) (by kernel_rfl) (by kernel_rfl) (fun _ _ _ h =>h) (by kernel_rfl) HS0.out (by intro W hW;have x:=zAA (i:=3) hW.1 rfl;have x0:=hW.2.1;have x1:=hW.2.2;clear hW;go_simp) ?_
   refine zAB 4 (.int .i64 (i:Int)) rfl (by kernel_rfl) (by kernel_rfl) (by kernel_rfl) (fun _ _ _ h =>h) (by kernel_rfl) HS0.out (fun _ _ =>by kernel_rfl) ?_
   refine zAB 5 (.pointer (some (ad.add (i * 3)))) rfl (by kernel_rfl) (by kernel_rfl) (by kernel_rfl) (fun _ _ _ h =>h) (by kernel_rfl) HS0.out (by intro W hW;go_simp) ?_
   refine zAB 6 (.pointer (some (ad.add (i * 3)))) rfl (by kernel_rfl) (by kernel_rfl) (by kernel_rfl) (fun _ _ _ h =>h) (by kernel_rfl) HS0.out (by intro v hv;go_simp) ?_
   refine zAB 7 (.string sn) rfl (by kernel_rfl) (by kernel_rfl) (by kernel_rfl) (fun _ _ _ h =>h) (by kernel_rfl) HS0.out (by intro W hW;have x:=zAA (i:=3) hW.1 rfl;have x0:=hW.2.1;have x1:=hW.2.2;clear hW;go_simp) ?_
   refine zAB 11 (.pointer (some ⟨w.heap.size,3,none⟩)) rfl (by kernel_rfl) (by kernel_rfl) (by kernel_rfl) (fun _ _ _ h =>h) (by kernel_rfl) HS0.out (fun _ _ =>by kernel_rfl) ?_
   refine zAB 12 (.slice (some ad) n c) rfl (by kernel_rfl) (by kernel_rfl) (by kernel_rfl) (fun _ _ _ h =>h) (by kernel_rfl) HS0.out (by intro W hW;have x:=zAA (i:=3) hW.1 rfl;have x0:=hW.2.1;have x1:=hW.2.2;clear hW;go_simp) ?_
   refine zAB 13 (.int .i64 (i:Int)) rfl (by kernel_rfl) (by kernel_rfl) (by kernel_rfl) (fun _ _ _ h =>h) (by kernel_rfl) HS0.out (fun _ _ =>by kernel_rfl) ?_
   refine zAB 14 (.pointer (some (ad.add (i * 3)))) rfl (by kernel_rfl) (by kernel_rfl) (by kernel_rfl) (fun _ _ _ h =>h) (by kernel_rfl) HS0.out (by intro W hW;go_simp) ?_
   refine zAB 15 (.pointer (some ⟨(ad.add (i * 3)).block,(ad.add (i * 3)).off+1,none⟩)) rfl (by kernel_rfl) (by kernel_rfl) (by kernel_rfl) (fun _ _ _ h =>h) (by kernel_rfl) HS0.out (by intro v hv;go_simp) ?_
   refine zAB 16 (.int .u64 (z:Int)) rfl (by kernel_rfl) (by kernel_rfl) (by kernel_rfl) (fun _ _ _ h =>h) (by kernel_rfl) HS0.out (by intro W hW;have x:=zAA (i:=3) hW.1 rfl;have x0:=hW.2.1;have x1:=hW.2.2;clear hW;go_simp) ?_
   refine zAJ 8 rfl (by kernel_rfl) (by kernel_rfl) (fun K hK =>?_)
   go_simp
   refine (HPN.out _).mono ?_
   rintro e x9 ⟨rfl,b9⟩
   have HB9:Hid (Below w.heap.size w x9):=HBR.out.drew.trans (b9.mono HBR.out.drew.size)
   have HS9:=yh (show x9.heap[w.heap.size]? = some (.cells #[.int .i64 1,.string st,.int .u64 (zu:Int),.slice (some ad) n c,.int .u64 (zo:Int),.int .u64 (zm:Int),.string sg] 37 (0,0))∧x9.cell? (ad.add (i * 3))=some (.string sn)∧x9.cell? ⟨(ad.add (i * 3)).block,(ad.add (i * 3)).off+1,none⟩=some (.int .u64 (z:Int)) from ⟨(b9.block w.heap.size (Array.getElem?_eq_some_iff.1 HS0.out.1).1).trans HS0.out.1,(b9.cell (by rw [zAH];exact HAD.out)).trans HS0.out.2.1,(b9.cell (p:=⟨(ad.add (i * 3)).block,(ad.add (i * 3)).off+1,none⟩) (by show (ad.add (i * 3)).block<_;rw [zAH];exact HAD.out)).trans HS0.out.2.2⟩)
   have HK9:=yh ((b9.cell (p:=⟨(ad.add (i * 3)).block,(ad.add (i * 3)).off+2,none⟩) (by show (ad.add (i * 3)).block<_;rw [zAH];exact HAD.out)).trans HK2.out)
   clear b9
   refine hK _ _ HS9.out ?_
   clear hK K
   refine zAB 9 (.string d2) rfl (by kernel_rfl) (by kernel_rfl) (by kernel_rfl) (fun _ _ _ h =>h) (by kernel_rfl) HS9.out (by intro v hv;go_simp) ?_
   refine zAB 10 (.string d3) rfl (by kernel_rfl) (by kernel_rfl) (by kernel_rfl) (fun _ _ _ h =>h) (by kernel_rfl) HS9.out (by intro v hv;go_simp) ?_
   refine zAJ 17 rfl (by kernel_rfl) (by kernel_rfl) (fun K hK =>?_)
   go_simp
   refine (HXZ.out _).mono ?_
   rintro e wx ⟨rfl,rfl⟩
   refine hK _ _ HS9.out ?_
   clear hK K
   refine zAB 18 (.string d4) rfl (by kernel_rfl) (by kernel_rfl) (by kernel_rfl) (fun _ _ _ h =>h) (by kernel_rfl) HS9.out (by intro v hv;go_simp) ?_
   refine zAB 19 (.string d4) rfl (by kernel_rfl) (by kernel_rfl) (by kernel_rfl) (fun _ _ _ h =>h) (by kernel_rfl) HS9.out (fun _ _ =>by kernel_rfl) ?_
   refine wpAnyH_done (by kernel_rfl) ?_ _
   go_simp
   have q3:=zAA (i:=3) HS9.out.1 rfl
   have k2:=HK9.out
   cases xo with
   | true =>
    go_wp2
    exact ⟨⟨i+1,by rw [HL.out];omega,by go_num,by rw [HT1.out rfl],HB9.out,HS9.out.1⟩,by simp [intOf];omega⟩
   | false =>
    go_wp2
    exact ⟨⟨i+1,by rw [HL.out];omega,by go_num,by rw [HT2.out rfl],HB9.out,HS9.out.1⟩,by simp [intOf];omega⟩
  ·obtain rfl:i=n:=by omega
   have htk:l.take i=l:=List.take_of_length_le (by rw [HL.out];exact Nat.le_refl _)
   rw [htk,← HLW.out,← HJL.out]
   clear htk
   go_wp2
   go_ret2
   exact ⟨rfl,HBR.out⟩
end Go.Proofs.YtgoklhoaedceaaaGreatDoor
