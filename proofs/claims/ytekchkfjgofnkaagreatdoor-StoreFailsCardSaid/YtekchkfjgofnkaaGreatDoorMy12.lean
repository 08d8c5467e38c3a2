/- Texts of one proof. -/
import Derived.Test.YtekchkfjgofnkaaGreatDoorMy10
import Derived.Test.YtekchkfjgofnkaaGreatDoorMy11
set_option maxRecDepth 100000
set_option maxHeartbeats 8000000
namespace Go.Proofs.YtekchkfjgofnkaaGreatDoor
open Go.RowKit
theorem zIh (r1 r2:Rc) (A B:Option Addr) (n1 n2 c d:Nat) (l1 l2:List Dp) (hn:n1≤1000000) (w:World) (h1:zAD w w.heap.size 3 A n1 (dps l1)) (h2:zAD w w.heap.size 3 B n2 (dps l2)) :
  Calls Tryz.prog 42 #[rcv r1 A n1 c,rcv r2 B n2 d] w fun e w' =>∃ q:Bool,(q=true ↔ r1=r2∧l1=l2)∧e=.returned (.bool q)∧Below w.heap.size w w':=by
 have hl1:l1.length=n1:=by have:=h1.1;rw [zAn] at this;omega
 have hl2:l2.length=n2:=by have:=h2.1;rw [zAn] at this;omega
 obtain ⟨k1,t1,u1,o1,m1,g1⟩:=r1
 obtain ⟨k2,t2,u2,o2,m2,g2⟩:=r2
 unfold rcv rsv
 have bad:∀ {e:Ending} {w':World},¬ ((⟨k1,t1,u1,o1,m1,g1⟩:Rc)=⟨k2,t2,u2,o2,m2,g2⟩∧l1=l2)→e=.returned (.bool false)∧Below w.heap.size w w'→∃ q:Bool,(q=true ↔ (⟨k1,t1,u1,o1,m1,g1⟩:Rc)=⟨k2,t2,u2,o2,m2,g2⟩∧l1=l2)∧e=.returned (.bool q)∧Below w.heap.size w w' :=
  fun h ⟨he,hb⟩ =>⟨false,by simpa using h,he,hb⟩
 by_cases e1:k1=k2
 ·by_cases e2:t1=t2
  ·by_cases e3:u1=u2
   ·by_cases e4:o1=o2
    ·by_cases e5:m1=m2
     ·by_cases e6:g1=g2
      ·subst e1 e2 e3 e4 e5 e6
       by_cases en:n1=n2
       ·subst en
        refine (zRZ k1 u1 o1 m1 t1 g1 A B n1 c d l1 l2 hn w h1 h2).mono ?_
        rintro e w' ⟨he,hb⟩
        rcases he with ⟨hl,he⟩ | ⟨hl,he⟩
        ·exact ⟨true,by simp [hl],he,hb⟩
        ·exact ⟨false,by simp [hl],he,hb⟩
       ·refine (zSx k1 t1 u1 o1 m1 g1 n1 n2 A B c d en w).mono fun _ _ h =>bad (fun ⟨_,h⟩ =>en (by rw [← hl1,← hl2,h])) h
      ·subst e1 e2 e3 e4 e5
       exact (zRb k1 t1 u1 o1 m1 g1 g2 n1 n2 A B c d e6 w).mono fun _ _ h =>bad (fun ⟨h,_⟩ =>e6 (by injection h)) h
     ·subst e1 e2 e3 e4
      exact (zPo k1 t1 u1 o1 m1 m2 g1 g2 n1 n2 A B c d e5 w).mono fun _ _ h =>bad (fun ⟨h,_⟩ =>e5 (by injection h)) h
    ·subst e1 e2 e3
     exact (zRa k1 t1 u1 o1 o2 m1 m2 g1 g2 n1 n2 A B c d e4 w).mono fun _ _ h =>bad (fun ⟨h,_⟩ =>e4 (by injection h)) h
   ·subst e1 e2
    exact (zPn k1 t1 u1 u2 o1 o2 m1 m2 g1 g2 n1 n2 A B c d e3 w).mono fun _ _ h =>bad (fun ⟨h,_⟩ =>e3 (by injection h)) h
  ·subst e1
   exact (zMI k1 t1 t2 u1 u2 o1 o2 m1 m2 g1 g2 n1 n2 A B c d e2 w).mono fun _ _ h =>bad (fun ⟨h,_⟩ =>e2 (by injection h)) h
 ·exact (zPm k1 k2 t1 t2 u1 u2 o1 o2 m1 m2 g1 g2 n1 n2 A B c d e1 w).mono fun _ _ h =>bad (fun ⟨h,_⟩ =>e1 (by injection h)) h
theorem zPq (r1 r2:Rc) (A B:Option Addr) (n1 n2 c d:Nat) (l1 l2:List Dp) (hn:n1≤1000000) (w:World) (h1:zAD w w.heap.size 3 A n1 (dps l1)) (h2:zAD w w.heap.size 3 B n2 (dps l2)) :
  Calls Tryz.prog 60 #[rcv r1 A n1 c,rcv r2 B n2 d] w fun e w' =>∃ q:Bool,(q=true ↔ r1=r2∧l1=l2)∧e=.returned (.bool q)∧Below w.heap.size w w':=by
 have hl1:l1.length=n1:=by have:=h1.1;rw [zAn] at this;omega
 have hl2:l2.length=n2:=by have:=h2.1;rw [zAn] at this;omega
 by_cases e:r1=r2
 ·by_cases en:n1=n2
  ·subst e en
   refine (zNv r1 A B n1 c d l1 l2 hn w h1 h2).mono ?_
   rintro e w' ⟨q,hq,he,hb⟩
   exact ⟨q,by simpa using hq,he,hb⟩
  ·subst e
   refine (zNw r1 A B n1 n2 c d en w).mono ?_
   rintro e w' ⟨he,hb⟩
   exact ⟨false,by simp;intro h;exact en (by rw [← hl1,← hl2,h]),he,hb⟩
 ·refine (zMJ r1 r2 A B n1 n2 c d e w).mono ?_
  rintro e' w' ⟨he,hb⟩
  exact ⟨false,by simp [e],he,hb⟩
def zLS (r:Rc) (l:List Dp):Prop:=r=⟨2,r.target,0,0,0,[]⟩∧l=[]
def MayP (v:Int) (r:Rc) (l:List Dp):Prop:=1≤v∧v≤3∧zBI r.target=true∧((r.kind=1∧zEU v r∧TagP v r∧zET v r l)∨(r.kind=2∧zLS r l))
theorem zHu (v:Int) (r:Rc) (A:Option Addr) (n c:Nat) (l:List Dp) (hn:n≤5000) (hfit:Fits r l) (w:World) (h:zAD w w.heap.size 3 A n (dps l)) :
  Calls Tryz.prog 36 #[.int .i64 v,rcv r A n c] w fun e w' =>zAz (MayP v r l) e∧Below w.heap.size w w':=by
 have hz:(w.alloc (.cells (zAh r A n c) 41)).heap.size=w.heap.size+1:=by simp
 have H0:=yh (zAE w (.cells (zAh r A n c) 41))
 have HB0:=yh ((Below.refl w.heap.size w).alloc (Nat.le_refl _) (.cells (zAh r A n c) 41))
 have HTIME:Hid (∀ W,Calls Tryz.prog 57 #[.int .i64 v,rcv r A n c] W fun e w' =>zAz (zEU v r) e∧Below W.heap.size W w'):=fun W =>(zQE v r A n c W).mono fun e w' ⟨q,h1,h2,h3⟩ =>⟨⟨q,h1,h2⟩,h3⟩
 have HTAG:Hid (∀ W,Calls Tryz.prog 58 #[.int .i64 v,rcv r A n c] W fun e w' =>zAz (TagP v r) e∧Below W.heap.size W w'):=fun W =>(zRj v r A n c W).mono fun e w' ⟨q,h1,h2,h3⟩ =>⟨⟨q,h1,h2⟩,h3⟩
 have HDEPS:Hid (∀ W,Below w.heap.size w W→Calls Tryz.prog 59 #[.int .i64 v,rcv r A n c] W fun e w' =>zAz (zET v r l) e∧Below W.heap.size W w'):=fun W hb =>zOj v r A n c l hn hfit.1 hfit.2.2 W ((h.below hb).more hb.size)
 have HSAME:Hid (∀ W,Below w.heap.size w W→Calls Tryz.prog 60 #[rcv r A n c,rcv ⟨2,r.target,0,0,0,[]⟩ none 0 0] W fun e w' =>zAz (zLS r l) e∧Below W.heap.size W w'):=fun W hb =>
  (zPq r ⟨2,r.target,0,0,0,[]⟩ A none n 0 c 0 l [] (by omega) W ((h.below hb).more hb.size) zAD.none_).mono fun e w' ⟨q,h1,h2,h3⟩ =>⟨⟨q,h1,h2⟩,h3⟩
 obtain ⟨k,t,u,o,m,g⟩:=r
 have HNAME:=yh (zGh t)
 clear h hfit
 generalize hW:w.alloc (.cells (zAh ⟨k,t,u,o,m,g⟩ A n c) 41)=W0 at *
 have CELL:∀ {i:Nat} {x:Value},(zAh ⟨k,t,u,o,m,g⟩ A n c)[i]? = some x→∀ {W:World},Below (w.heap.size+1) W0 W→W.cell? ⟨w.heap.size,i,none⟩=some x:=fun hi W hb =>(hb.cell (p:=⟨w.heap.size,_,none⟩) (show w.heap.size<w.heap.size+1 by omega)).trans (zAA H0.out hi)
 have hs:=Below.refl (w.heap.size+1) W0
 have q0:=CELL (i:=0) rfl hs
 have q1:=CELL (i:=1) rfl hs
 have q2:=CELL (i:=2) rfl hs
 have q3:=CELL (i:=3) rfl hs
 have q4:=CELL (i:=4) rfl hs
 have q5:=CELL (i:=5) rfl hs
 have q6:=CELL (i:=6) rfl hs
 subst hW
 have HZ:=yh hz
 have HCELL:Hid (∀ {i:Nat} {x:Value},(zAh ⟨k,t,u,o,m,g⟩ A n c)[i]? = some x→∀ {W:World},Below (w.heap.size+1) (w.alloc (.cells (zAh ⟨k,t,u,o,m,g⟩ A n c) 41)) W→W.cell? ⟨w.heap.size,i,none⟩=some x):=CELL
 clear CELL hs hz
 unfold zAh at *
 unfold rcv rsv at *
 by_cases hv1:v<1
 ·have HP:Hid (¬ MayP v ⟨k,t,u,o,m,g⟩ l):=fun h =>by have:=h.1;omega
  have d1:decide (v<1)=true:=decide_eq_true hv1
  go_enter Tryz.func36,Tryz.ntmps36
  go_wp2
  go_ret
  exact ⟨zAl HP.out,HB0.out⟩
 have d1:decide (v<1)=false:=decide_eq_false hv1
 by_cases hv3:3<v
 ·have HP:Hid (¬ MayP v ⟨k,t,u,o,m,g⟩ l):=fun h =>by have:=h.2.1;omega
  have d3:decide (v > 3)=true:=decide_eq_true hv3
  go_enter Tryz.func36,Tryz.ntmps36
  go_wp2
  go_ret
  exact ⟨zAl HP.out,HB0.out⟩
 have d3:decide (v > 3)=false:=decide_eq_false hv3
 cases hq:zBI t
 ·have HP:Hid (¬ MayP v ⟨k,t,u,o,m,g⟩ l):=fun h =>by have h2:zBI t=true:=h.2.2.1;rw [hq] at h2;cases h2
  rw [hq] at HNAME
  go_enter Tryz.func36,Tryz.ntmps36
  go_wp2_with (go_at_call 50;refine (HNAME.out _).mono ?_;rintro e w2 ⟨rfl,rfl⟩)
  go_ret
  exact ⟨zAl HP.out,HB0.out⟩
 rw [hq] at HNAME
 by_cases hk1:k=1
 ·subst hk1
  by_cases hT:zEU v ⟨1,t,u,o,m,g⟩
  ·have HT:Hid (∀ W,Calls Tryz.prog 57 #[.int .i64 v,.agg #[.int .i64 1,.string (tx t),.int .u64 u,.slice A n c,.int .u64 o,.int .u64 m,.string (tx g)]] W fun e w' =>e=.returned (.bool true)∧Below W.heap.size W w'):=fun W =>(HTIME.out W).mono fun e w' ⟨h1,h2⟩ =>⟨h1.yes hT,h2⟩
   by_cases hG:TagP v ⟨1,t,u,o,m,g⟩
   ·have HG:Hid (∀ W,Calls Tryz.prog 58 #[.int .i64 v,.agg #[.int .i64 1,.string (tx t),.int .u64 u,.slice A n c,.int .u64 o,.int .u64 m,.string (tx g)]] W fun e w' =>e=.returned (.bool true)∧Below W.heap.size W w'):=fun W =>(HTAG.out W).mono fun e w' ⟨h1,h2⟩ =>⟨h1.yes hG,h2⟩
    have HD:Hid (∀ W,Below w.heap.size w W→Calls Tryz.prog 59 #[.int .i64 v,.agg #[.int .i64 1,.string (tx t),.int .u64 u,.slice A n c,.int .u64 o,.int .u64 m,.string (tx g)]] W fun e w' =>∃ q:Bool,e=.returned (.bool q)∧Hid (zAz (MayP v ⟨1,t,u,o,m,g⟩ l) e)∧Below W.heap.size W w'):=fun W hb =>(HDEPS.out W hb).mono fun e w' ⟨h1,h2⟩ =>by
     have h3:zAz (MayP v ⟨1,t,u,o,m,g⟩ l) e:=h1.iff ⟨fun hd =>⟨by omega,by omega,hq,.inl ⟨rfl,hT,hG,hd⟩⟩,fun hm =>by rcases hm.2.2.2 with h | h;exact h.2.2.2;exact absurd h.1 (by simp)⟩
     obtain ⟨q,_,h5⟩:=h1
     exact ⟨q,h5,h3,h2⟩
    clear HTIME HTAG HDEPS HSAME hT hG
    go_enter Tryz.func36,Tryz.ntmps36
    go_wp2_with (first
     | (go_at_call 59;refine (HD.out _ (HB3.out.drew)).mono ?_;rintro e w4 ⟨q,rfl,hq4,hb4⟩;have HB4:=yh (HB3.out.trans (hb4.mono HB3.out.size)))
     | (go_at_call 59;refine (HD.out _ (HB3.out)).mono ?_;rintro e w4 ⟨q,rfl,hq4,hb4⟩;have HB4:=yh (HB3.out.trans (hb4.mono HB3.out.size)))
     | (go_at_call 58;refine (HG.out _).mono ?_;rintro e w3 ⟨rfl,hb3⟩;have HB3:=yh (HB2.out.trans (hb3.mono HB2.out.size));have HS3:=yh (HS2.out.trans (hb3.mono HS2Z.out));have hs30:=HCELL.out (i:=0) rfl HS3.out;have hs31:=HCELL.out (i:=1) rfl HS3.out;have hs32:=HCELL.out (i:=2) rfl HS3.out;have hs33:=HCELL.out (i:=3) rfl HS3.out;have hs34:=HCELL.out (i:=4) rfl HS3.out;have hs35:=HCELL.out (i:=5) rfl HS3.out;have hs36:=HCELL.out (i:=6) rfl HS3.out;clear hb3)
     | (go_at_call 57;refine (HT.out _).mono ?_;rintro e w2 ⟨rfl,hb2⟩;have HB2:=yh (HB0.out.trans (hb2.mono HB0.out.size));have HS2:=yh (hb2.mono (Nat.le_of_eq HZ.out.symm));have HS2Z:Hid (w.heap.size+1≤w2.heap.size):=by { have h1:=hb2.size;rw [HZ.out] at h1;exact h1 };have hs20:=HCELL.out (i:=0) rfl HS2.out;have hs21:=HCELL.out (i:=1) rfl HS2.out;have hs22:=HCELL.out (i:=2) rfl HS2.out;have hs23:=HCELL.out (i:=3) rfl HS2.out;have hs24:=HCELL.out (i:=4) rfl HS2.out;have hs25:=HCELL.out (i:=5) rfl HS2.out;have hs26:=HCELL.out (i:=6) rfl HS2.out;clear hb2)
     | (go_at_call 50;refine (HNAME.out _).mono ?_;rintro e w2 ⟨rfl,rfl⟩))
    go_ret
    exact ⟨hq4.out,HB4.out⟩
   ·have HG:Hid (∀ W,Calls Tryz.prog 58 #[.int .i64 v,.agg #[.int .i64 1,.string (tx t),.int .u64 u,.slice A n c,.int .u64 o,.int .u64 m,.string (tx g)]] W fun e w' =>e=.returned (.bool false)∧Below W.heap.size W w'):=fun W =>(HTAG.out W).mono fun e w' ⟨h1,h2⟩ =>⟨h1.no hG,h2⟩
    have HP:Hid (¬ MayP v ⟨1,t,u,o,m,g⟩ l):=fun hm =>by rcases hm.2.2.2 with h | h;exact hG h.2.2.1;exact absurd h.1 (by simp)
    clear HTIME HTAG HDEPS HSAME hT hG
    go_enter Tryz.func36,Tryz.ntmps36
    go_wp2_with (first
     | (go_at_call 58;refine (HG.out _).mono ?_;rintro e w3 ⟨rfl,hb3⟩;have HB3:=yh (HB2.out.trans (hb3.mono HB2.out.size));clear hb3)
     | (go_at_call 57;refine (HT.out _).mono ?_;rintro e w2 ⟨rfl,hb2⟩;have HB2:=yh (HB0.out.trans (hb2.mono HB0.out.size));have HS2:=yh (hb2.mono (Nat.le_of_eq HZ.out.symm));have hs20:=HCELL.out (i:=0) rfl HS2.out;have hs21:=HCELL.out (i:=1) rfl HS2.out;have hs22:=HCELL.out (i:=2) rfl HS2.out;have hs23:=HCELL.out (i:=3) rfl HS2.out;have hs24:=HCELL.out (i:=4) rfl HS2.out;have hs25:=HCELL.out (i:=5) rfl HS2.out;have hs26:=HCELL.out (i:=6) rfl HS2.out;clear hb2)
     | (go_at_call 50;refine (HNAME.out _).mono ?_;rintro e w2 ⟨rfl,rfl⟩))
    go_ret
    exact ⟨zAl HP.out,HB3.out⟩
  ·have HT:Hid (∀ W,Calls Tryz.prog 57 #[.int .i64 v,.agg #[.int .i64 1,.string (tx t),.int .u64 u,.slice A n c,.int .u64 o,.int .u64 m,.string (tx g)]] W fun e w' =>e=.returned (.bool false)∧Below W.heap.size W w'):=fun W =>(HTIME.out W).mono fun e w' ⟨h1,h2⟩ =>⟨h1.no hT,h2⟩
   have HP:Hid (¬ MayP v ⟨1,t,u,o,m,g⟩ l):=fun hm =>by rcases hm.2.2.2 with h | h;exact hT h.2.1;exact absurd h.1 (by simp)
   clear HTIME HTAG HDEPS HSAME hT
   go_enter Tryz.func36,Tryz.ntmps36
   go_wp2_with (first
    | (go_at_call 57;refine (HT.out _).mono ?_;rintro e w2 ⟨rfl,hb2⟩;have HB2:=yh (HB0.out.trans (hb2.mono HB0.out.size));clear hb2)
    | (go_at_call 50;refine (HNAME.out _).mono ?_;rintro e w2 ⟨rfl,rfl⟩))
   go_ret
   exact ⟨zAl HP.out,HB2.out⟩
 ·have d4:decide (k=1)=false:=decide_eq_false hk1
  have d5:(k == 1)=false:=by rw [beq_eq_false_iff_ne];exact hk1
  by_cases hk2:k=2
  ·subst hk2
   have HD:Hid (∀ W,Below w.heap.size w W→Calls Tryz.prog 60 #[.agg #[.int .i64 2,.string (tx t),.int .u64 u,.slice A n c,.int .u64 o,.int .u64 m,.string (tx g)],.agg #[.int .i64 2,.string (tx t),.int .u64 0,.slice none 0 0,.int .u64 0,.int .u64 0,.string (tx [])]] W fun e w' =>∃ q:Bool,e=.returned (.bool q)∧Hid (zAz (MayP v ⟨2,t,u,o,m,g⟩ l) e)∧Below W.heap.size W w'):=fun W hb =>(HSAME.out W hb).mono fun e w' ⟨h1,h2⟩ =>by
    have h3:zAz (MayP v ⟨2,t,u,o,m,g⟩ l) e:=h1.iff ⟨fun hd =>⟨by omega,by omega,hq,.inr ⟨rfl,hd⟩⟩,fun hm =>by rcases hm.2.2.2 with h | h;exact absurd h.1 (by simp);exact h.2⟩
    obtain ⟨q,_,h5⟩:=h1
    exact ⟨q,h5,h3,h2⟩
   have htx:tx []=(⟨#[]⟩:ByteArray):=rfl
   rw [htx] at HD
   clear HTIME HTAG HDEPS HSAME htx
   go_enter Tryz.func36,Tryz.ntmps36
   go_wp2_with (first
    | (go_at_call 60;refine (HD.out _ HB0.out).mono ?_;rintro e w4 ⟨q,rfl,hq4,hb4⟩;have HB4:=yh (HB0.out.trans (hb4.mono HB0.out.size)))
    | (go_at_call 50;refine (HNAME.out _).mono ?_;rintro e w2 ⟨rfl,rfl⟩))
   go_ret
   exact ⟨hq4.out,HB4.out⟩
  ·have HP:Hid (¬ MayP v ⟨k,t,u,o,m,g⟩ l):=fun hm =>by rcases hm.2.2.2 with h | h;exact hk1 h.1;exact hk2 h.1
   have d6:decide (k=2)=false:=decide_eq_false hk2
   have d7:(k == 2)=false:=by rw [beq_eq_false_iff_ne];exact hk2
   clear HTIME HTAG HDEPS HSAME hk1 hk2
   go_enter Tryz.func36,Tryz.ntmps36
   go_wp2_with (first
    | (go_at_call 50;refine (HNAME.out _).mono ?_;rintro e w2 ⟨rfl,rfl⟩))
   go_ret
   exact ⟨zAl HP.out,HB0.out⟩
def Lis (w:World) (B:Nat) (v:Value) (l:List (List UInt8)):Prop:=∃ A n c,v=.slice A n c∧n=l.length∧n≤c∧(A=none→c=0)∧zAD w B 1 A n (l.map tsv)
theorem Lis.of_own {w:World} {base n:Nat} {e:TypeId} {v:Value} {l:List (List UInt8)} (h:w.ownsRow base e 1 v n (l.map tsv)):Lis w w.heap.size v l:=by
 obtain ⟨A,c,rfl,hn,hr⟩:=zBF h
 refine ⟨A,n,c,rfl,by have:=hr.1;simpa using this.symm,hn,fun e =>?_,hr⟩
 subst e
 rcases h.2 with ⟨h0,h00⟩ | ⟨g',cap,cur,hv,_⟩
 ·injection h0
 ·injection hv with hv _ _;cases hv
def Own (w:World) (base:Nat) (v:Value) (l:List (List UInt8)):Prop:=w.ownsRow base 9 1 v l.length (l.map tsv)
theorem Own.below {w w':World} {base:Nat} {v:Value} {l:List (List UInt8)} (h:Own w base v l) (hb:Below w.heap.size w w'):Own w' base v l:=zAK h hb
theorem Own.less {w:World} {base base':Nat} {v:Value} {l:List (List UInt8)} (h:Own w base v l) (hb:base'≤base):Own w base' v l:=by
 obtain ⟨h1,h2 | ⟨g,cap,cur,hv,hbg,r⟩⟩:=h
 ·exact ⟨h1,.inl h2⟩
 ·exact ⟨h1,.inr ⟨g,cap,cur,hv,by omega,r⟩⟩
open Go.RowKit Go.Maps Go.ChangeMaps Go.WideMaps
def zBC (l:List (List UInt8)) (i:Nat):List UInt8:=(l[i]?).getD []
theorem zOM (S:Nat→Prop) (b N:Nat) (l:List (List UInt8)) (i:Nat) (hl:l.length≤1073741824) (w:World) (h:Tab w S b N l) :
  Calls Tryz.prog 182 #[.pointer (some ⟨b,0,none⟩),.int .u64 (i:Int)] w fun e w' =>e=.returned (.tuple #[tsv (zBC l i),.bool (decide (i<l.length))])∧w=w':=by
 obtain ⟨L,c,mv,h1,_,h3,_⟩:=h
 have hc0:=zAr (i:=0) h1 rfl
 have hrd:=zAD.of_own h3
 obtain ⟨n,hn⟩:∃ n,n=l.length:=⟨_,rfl⟩
 rw [← hn] at hc0 hrd hl ⊢
 have HN:=yh hn
 have hw1:IntKind.u64.wrap (n:Int)=(n:Int):=by rw [IntKind.wrap_u64];omega
 clear h1 h3 hn
 by_cases hlt:i<n
 ·obtain ⟨ad,u,rfl,_,hu,hcell⟩:=hrd.at_ hlt
  obtain ⟨s,hs⟩:∃ s,l[i]? = some s:=⟨_,List.getElem?_eq_getElem (by rw [← HN.out];exact hlt)⟩
  have e1:zBC l i=s:=by rw [zBC,hs];rfl
  obtain rfl:u=tsv s:=by rw [List.getElem?_map,hs] at hu;simpa using hu.symm
  rw [e1,decide_eq_true hlt]
  unfold tsv at hcell ⊢
  clear hu hs e1 hrd
  go_enter Tryz.func182,Tryz.ntmps182
  go_wp2
  go_ret2
  exact ⟨rfl,rfl⟩
 ·have e1:zBC l i=[]:=by rw [zBC,List.getElem?_eq_none (by rw [← HN.out];omega)];rfl
  have e2:tsv ([]:List UInt8)=.string ⟨#[]⟩:=rfl
  rw [e1,decide_eq_false hlt,e2]
  clear hrd e1 e2
  go_enter Tryz.func182,Tryz.ntmps182
  go_wp2
  go_ret2
  exact ⟨rfl,rfl⟩
theorem zGa (S:Nat→Prop) (b N:Nat) (l:List (List UInt8)) (i:Nat) (hl:l.length≤1073741824) (w:World) (h:Tab w S b N l) :
  Calls Tryz.prog 173 #[.pointer (some ⟨b,0,none⟩),.int .u64 (i:Int)] w fun e w' =>e=.returned (.tuple #[tsv (zBC l i),.bool (decide (i<l.length))])∧w=w':=by
 have HF:=yh (zOM S b N l i hl w h)
 unfold tsv at HF ⊢
 generalize decide (i<l.length)=q at HF ⊢
 clear h hl
 go_enter Tryz.func173,Tryz.ntmps173
 go_wp2_with (first
  | (go_at_call 108;refine (zEm b _).mono ?_;rintro e w1 ⟨rfl,rfl⟩)
  | (go_at_call 182;refine HF.out.mono ?_;rintro e w1 ⟨rfl,rfl⟩))
 go_ret2
 exact ⟨rfl,rfl⟩
def zBK (r:Rc) (l:List Dp):List (List UInt8):=tnew (r.target :: names l++(if r.tag=[] then [] else [r.tag]))
theorem zIN (T Z:List Value) (i:Nat) (u:Value) (hl:Z.length=T.length) (hu:T[i]? = some u):(T.take i++Z.drop i).set i u=T.take (i+1)++Z.drop (i+1):=by
 have hi:i<T.length:=(List.getElem?_eq_some_iff.1 hu).1
 have h1:(T.take i).length=i:=by rw [List.length_take];omega
 have h2:Z.drop i=Z[i]'(by omega) :: Z.drop (i+1):=List.drop_eq_getElem_cons (by omega)
 rw [h2,List.take_add_one,hu,List.set_append_right _ _ (by omega),h1,Nat.sub_self]
 show T.take i++(u :: Z.drop (i+1))=_
 simp
def zQO (w:World) (b g N:Nat) (ts:List (List UInt8)) (Z:List Value) (idx:Value) (wr:World):Prop :=
 ∃ i:Nat,i≤ts.length∧idx=.int .i64 (i:Int)∧Tab wr (fun k =>k<g) b N ts∧Below w.heap.size w wr∧wr.heap[g]? = some (.cells ((ts.map tsv).take i++Z.drop i).toArray 9 (0,0))
theorem zQF (t:List UInt8) (ts:List (List UInt8)):0<(tnew (t :: ts)).length:=by
 have h:t ∈ tnew (t :: ts):=zCt (by simp)
 exact List.length_pos_of_mem h
theorem zNX (r:Rc) (A:Option Addr) (n c:Nat) (l:List Dp) (hn:n≤1000) (hfit:Fits r l) (w:World) (h:zAD w w.heap.size 3 A n (dps l)) :
  Calls Tryz.prog 154 #[rcv r A n c] w fun e w' =>∃ v,e=.returned v∧Own w' w.heap.size v (zBK r l)∧Below w.heap.size w w':=by
 obtain ⟨i0,hi0,hz0,hz1,hz2⟩:=info_parts zQZ
 have hl:l.length=n:=by have:=h.1;rw [zAn] at this;omega
 have hz:(w.alloc (.cells (zAh r A n c) 41)).heap.size=w.heap.size+1:=by simp
 have h0:=zAE w (.cells (zAh r A n c) 41)
 have hb0:=(Below.refl w.heap.size w).alloc (Nat.le_refl _) (.cells (zAh r A n c) 41)
 have HNAMED:=yh (zIc r A n c l (by omega) hfit.1 hfit.2.2 (w.alloc (.cells (zAh r A n c) 41)) ((h.below hb0).more (by rw [hz];omega)))
 have hlen0:(tnew (r.target :: names l)).length≤1+n:=by have:=zFT (r.target :: names l);rw [List.length_cons,show (names l).length=n from by unfold names;rw [List.length_map,hl]] at this;omega
 have HPOS:=yh (zQF r.target (names l))
 have HZ:=yh hz
 have HB0:=yh hb0
 have q0:=zAA (i:=0) h0 rfl
 have q1:=zAA (i:=1) h0 rfl
 have q2:=zAA (i:=2) h0 rfl
 have q3:=zAA (i:=3) h0 rfl
 have q4:=zAA (i:=4) h0 rfl
 have q5:=zAA (i:=5) h0 rfl
 have q6:=zAA (i:=6) h0 rfl
 have Q6:=yh q6
 obtain ⟨k,t,u,o,m,g⟩:=r
 have hfg:=hfit.2.1
 have HFG:=yh hfg
 simp only at hlen0 HPOS hfg HFG
 clear h hb0 hz h0 hfit hl
 unfold zAh at *
 unfold rcv rsv at *
 by_cases hg:g=[]
 ·subst hg
  have he:(tx ([]:List UInt8)).toList=[]:=by simp [tx]
  have hT:Hid (tnew (t :: names l)=zBK ⟨k,t,u,o,m,[]⟩ l):=by show _=_;unfold zBK;simp
  obtain ⟨T,hTT⟩:∃ T,T=tnew (t :: names l):=⟨_,rfl⟩
  rw [← hTT] at hT HPOS hlen0 HNAMED
  clear hTT
  go_enter Tryz.func154,Tryz.ntmps154
  go_wp2_with (first
   | (at_make;have hk:=HB2.out.size;refine zDc _ rfl (.tmp 16) (.tmp 16) 82 rfl 9 i0 (.string ⟨#[]⟩) Tryz.underlying82 hi0 hz0 hz1 .i64 .i64 _ _ T.length T.length rfl rfl rfl rfl (Nat.le_refl _) (by rw [hz2];omega) (by unfold maxLen;omega) ?_;intro Z HZL HZ2;clear HZ2)
   | (go_at_call 86;have hk:=HB2.out.size;refine (zDP _ _ _ _ _ HT2.out).mono ?_;rintro e w3 ⟨rfl,rfl⟩)
   | (go_at_call 85;refine HNAMED.out.mono ?_;rintro e w2 ⟨tb,rfl,htb0,htb1,ht2,hb2⟩;have p6:=(hb2.cell (p:=⟨w.heap.size,6,none⟩) (show w.heap.size<_ by rw [HZ.out];omega)).trans Q6.out;have HB2:=yh (HB0.out.trans (hb2.mono HB0.out.size));have HT2:=yh ht2;clear ht2 hb2 htb0 htb1))
  have HB3:=yh (HB2.out.alloc HB2.out.size (.cells Z.toArray 9))
  have HT3:=yh (((HT2.out).wide (S2:=fun k =>k<w2.heap.size) (fun k _ hk =>hk)).keep (w':=w2.alloc (.cells Z.toArray 9)) (fun k _ hk =>Below.heap_alloc _ _ _ hk))
  have HG3:=yh (zAE w2 (.cells Z.toArray 9))
  have HW2:Hid (w.heap.size≤w2.heap.size):=HB2.out.size
  go_loopw [20] (fun idx wr =>zQO w tb w2.heap.size _ T Z idx wr) (fun idx wr =>T.length - (intOf idx).toNat)
  case atStart =>exact ⟨0,by omega,rfl,HT3.out,HB3.out,by simpa using HG3.out⟩
  case round =>
   obtain ⟨i,hi,rfl,htb,hb,hgr⟩:=hrel
   have HTB:=yh htb
   have HBR:=yh hb
   have HGR:=yh hgr
   by_cases hlt:i<T.length
   ·obtain ⟨s,hs⟩:∃ s,T[i]? = some s:=⟨_,List.getElem?_eq_getElem hlt⟩
    have htx:=zGa _ tb _ T i (by omega) wr htb
    have hts:zBC T i=s:=by unfold zBC;rw [hs];rfl
    rw [hts,decide_eq_true hlt] at htx
    have HTX:=yh htx
    unfold tsv at HTX
    have hfz:=zAC (i:=i) hgr
    have hclen:i<((T.map tsv).take i++Z.drop i).length:=by have h2:Z.length=T.length:=HZL;simp;omega
    obtain ⟨old,hold⟩:∃ u,((T.map tsv).take i++Z.drop i)[i]? = some u:=⟨_,List.getElem?_eq_getElem hclen⟩
    have hcell:=zAA (i:=i) hgr (by simpa using hold)
    have HSET:Hid ((wr.setCell ⟨w2.heap.size,i,none⟩ (.string (tx s))).heap[w2.heap.size]? = some (.cells ((T.map tsv).take (i+1)++Z.drop (i+1)).toArray 9 (0,0))):=by
     show _=_
     rw [zAF hgr i (.string (tx s))]
     have:=zIN (T.map tsv) Z i (.string (tx s)) (by rw [List.length_map];exact HZL) (by rw [List.getElem?_map,hs];rfl)
     rw [← this]
     simp
    have hi0:(0:Int)≤(i:Int):=by omega
    have hi1:(i:Int)<(T.length:Int):=by omega
    clear htb hb hgr htx hts hs hold hclen
    go_wp2_with (go_at_call 173;refine HTX.out.mono ?_;rintro e w3 ⟨rfl,rfl⟩)
    exact ⟨⟨i+1,by omega,by go_num,HTB.out.keep (fun k hk _ =>Below.heap_setCell _ _ _ _ (by show k≠w2.heap.size;omega)),HBR.out.setCell HW2.out _,HSET.out⟩,by simp [intOf];omega⟩
   ·obtain rfl:i=T.length:=by omega
    have h2:Z.length=T.length:=HZL
    have HGR2:Hid (wr.heap[w2.heap.size]? = some (.cells (T.map tsv).toArray 9 (0,0))):=by
     show _=_
     rw [hgr,List.take_of_length_le (by simp),List.drop_of_length_le (by omega),List.append_nil]
    clear htb hb hgr
    go_wp2
    go_ret
    refine ⟨_,rfl,?_,HBR.out⟩
    rw [← hT.out]
    exact zBO HW2.out HGR2.out (Nat.le_refl _) (by unfold maxLen;omega) (by simp) (by rw [List.take_of_length_le (by simp)])
 ·have he:=zGv g hg
  have hT:Hid (tput (tnew (t :: names l)) g=zBK ⟨k,t,u,o,m,g⟩ l):=by show _=_;unfold zBK;simp only [if_neg hg];rw [zFx]
  have hlen1:Hid ((tnew (t :: names l)).length+1≤1073741824):=by show _≤_;omega
  obtain ⟨T,hTT⟩:∃ T,T=tput (tnew (t :: names l)) g:=⟨_,rfl⟩
  have hlen0':T.length≤2+n:=by rw [hTT];have:=zKF (tnew (t :: names l)) g;omega
  have HTT:=yh hTT
  rw [← hTT] at hT
  have hlen0:=hlen0'
  clear hTT hlen0' HPOS hg
  go_enter Tryz.func154,Tryz.ntmps154
  go_wp2_with (first
   | (at_make;have hk:=HB2.out.size;refine zDc _ rfl (.tmp 16) (.tmp 16) 82 rfl 9 i0 (.string ⟨#[]⟩) Tryz.underlying82 hi0 hz0 hz1 .i64 .i64 _ _ T.length T.length rfl rfl rfl rfl (Nat.le_refl _) (by rw [hz2];omega) (by unfold maxLen;omega) ?_;intro Z HZL HZ2;clear HZ2)
   | (go_at_call 86;have hk:=HB2.out.size;refine (zDP _ _ _ _ _ HT2.out).mono ?_;rintro e w3 ⟨rfl,rfl⟩)
   | (go_at_call 107;have hk:=HB1.out.size;refine (zFb _ _ _ _ g HFG.out hlen1.out (by omega) _ HT1.out).mono ?_;rintro e w2 ⟨rfl,ht2,htu2⟩;rw [← HTT.out] at ht2;have HB2:=yh (HB1.out.trans (htu2.below (fun k hk =>by have:=HZ.out;omega) HB1.out.size));have HT2:=yh ht2;clear ht2 htu2)
   | (go_at_call 85;refine HNAMED.out.mono ?_;rintro e w1 ⟨tb,rfl,htb0,htb1,ht1,hb1⟩;have p6:=(hb1.cell (p:=⟨w.heap.size,6,none⟩) (show w.heap.size<_ by rw [HZ.out];omega)).trans Q6.out;have HB1:=yh (HB0.out.trans (hb1.mono HB0.out.size));have HT1:=yh ht1;clear ht1 hb1 htb0 htb1))
  have HB3:=yh (HB2.out.alloc HB2.out.size (.cells Z.toArray 9))
  have HT3:=yh (((HT2.out).wide (S2:=fun k =>k<w2.heap.size) (fun k _ hk =>hk)).keep (w':=w2.alloc (.cells Z.toArray 9)) (fun k _ hk =>Below.heap_alloc _ _ _ hk))
  have HG3:=yh (zAE w2 (.cells Z.toArray 9))
  have HW2:Hid (w.heap.size≤w2.heap.size):=HB2.out.size
  go_loopw [20] (fun idx wr =>zQO w tb w2.heap.size _ T Z idx wr) (fun idx wr =>T.length - (intOf idx).toNat)
  case atStart =>exact ⟨0,by omega,rfl,HT3.out,HB3.out,by simpa using HG3.out⟩
  case round =>
   obtain ⟨i,hi,rfl,htb,hb,hgr⟩:=hrel
   have HTB:=yh htb
   have HBR:=yh hb
   have HGR:=yh hgr
   by_cases hlt:i<T.length
   ·obtain ⟨s,hs⟩:∃ s,T[i]? = some s:=⟨_,List.getElem?_eq_getElem hlt⟩
    have htx:=zGa _ tb _ T i (by omega) wr htb
    have hts:zBC T i=s:=by unfold zBC;rw [hs];rfl
    rw [hts,decide_eq_true hlt] at htx
    have HTX:=yh htx
    unfold tsv at HTX
    have hfz:=zAC (i:=i) hgr
    have hclen:i<((T.map tsv).take i++Z.drop i).length:=by have h2:Z.length=T.length:=HZL;simp;omega
    obtain ⟨old,hold⟩:∃ u,((T.map tsv).take i++Z.drop i)[i]? = some u:=⟨_,List.getElem?_eq_getElem hclen⟩
    have hcell:=zAA (i:=i) hgr (by simpa using hold)
    have HSET:Hid ((wr.setCell ⟨w2.heap.size,i,none⟩ (.string (tx s))).heap[w2.heap.size]? = some (.cells ((T.map tsv).take (i+1)++Z.drop (i+1)).toArray 9 (0,0))):=by
     show _=_
     rw [zAF hgr i (.string (tx s))]
     have:=zIN (T.map tsv) Z i (.string (tx s)) (by rw [List.length_map];exact HZL) (by rw [List.getElem?_map,hs];rfl)
     rw [← this]
     simp
    have hi0:(0:Int)≤(i:Int):=by omega
    have hi1:(i:Int)<(T.length:Int):=by omega
    clear htb hb hgr htx hts hs hold hclen
    go_wp2_with (go_at_call 173;refine HTX.out.mono ?_;rintro e w3 ⟨rfl,rfl⟩)
    exact ⟨⟨i+1,by omega,by go_num,HTB.out.keep (fun k hk _ =>Below.heap_setCell _ _ _ _ (by show k≠w2.heap.size;omega)),HBR.out.setCell HW2.out _,HSET.out⟩,by simp [intOf];omega⟩
   ·obtain rfl:i=T.length:=by omega
    have h2:Z.length=T.length:=HZL
    have HGR2:Hid (wr.heap[w2.heap.size]? = some (.cells (T.map tsv).toArray 9 (0,0))):=by
     show _=_
     rw [hgr,List.take_of_length_le (by simp),List.drop_of_length_le (by omega),List.append_nil]
    clear htb hb hgr
    go_wp2
    go_ret
    refine ⟨_,rfl,?_,HBR.out⟩
    rw [← hT.out]
    exact zBO HW2.out HGR2.out (Nat.le_refl _) (by unfold maxLen;omega) (by simp) (by rw [List.take_of_length_le (by simp)])
end Go.Proofs.YtekchkfjgofnkaaGreatDoor
