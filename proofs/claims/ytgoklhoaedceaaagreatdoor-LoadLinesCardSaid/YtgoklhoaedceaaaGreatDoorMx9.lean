/- Texts of one proof. -/
import Derived.Lib.CountLaws
import Derived.Lib.IndexBytes
import Derived.Lib.Split
import Derived.Lib.SplitLaws
import Derived.Test.YtgoklhoaedceaaaGreatDoorMx7
import Derived.Test.YtgoklhoaedceaaaGreatDoorMx8
set_option maxRecDepth 100000
set_option maxHeartbeats 8000000
namespace Go.Proofs.YtgoklhoaedceaaaGreatDoor
open Go.RowKit
theorem zCy (r1 r2:Rc) (A B:Option Addr) (n1 n2 c d:Nat) (l1 l2:List Dp) (hn:n1≤1000000) (w:World) (h1:zAE w w.heap.size 3 A n1 (dps l1)) (h2:zAE w w.heap.size 3 B n2 (dps l2)) :
  Calls Tryz.prog 16 #[rcv r1 A n1 c,rcv r2 B n2 d] w fun e w' =>∃ q:Bool,(q=true ↔ r1=r2∧l1=l2)∧e=.returned (.bool q)∧Below w.heap.size w w':=by
 have hl1:l1.length=n1:=by have:=h1.1;rw [zAd] at this;omega
 have hl2:l2.length=n2:=by have:=h2.1;rw [zAd] at this;omega
 obtain ⟨k1,t1,u1,o1,m1,g1⟩:=r1
 obtain ⟨k2,t2,u2,o2,m2,g2⟩:=r2
 unfold rcv rsv
 have bad:∀ {e:Ending} {w':World},¬ ((⟨k1,t1,u1,o1,m1,g1⟩:Rc)=⟨k2,t2,u2,o2,m2,g2⟩∧l1=l2)→e=.returned (.bool false)∧Below w.heap.size w w'→∃ q:Bool,(q=true ↔ (⟨k1,t1,u1,o1,m1,g1⟩:Rc)=⟨k2,t2,u2,o2,m2,g2⟩∧l1=l2)∧e=.returned (.bool q)∧Below w.heap.size w w' :=
  fun h ⟨he,hb⟩ =>⟨false,by simpa using h,he,hb⟩
 by_cases e1:k1=k2
 ·by_cases e2:t1=t2
  ·by_cases e3:u1=u2
   ·by_cases e4:o1=o2
    ·by_cases e5:m1=m2
     ·by_cases e6:g1=g2
      ·subst e1 e2 e3 e4 e5 e6
       by_cases en:n1=n2
       ·subst en
        refine (zKv k1 u1 o1 m1 t1 g1 A B n1 c d l1 l2 hn w h1 h2).mono ?_
        rintro e w' ⟨he,hb⟩
        rcases he with ⟨hl,he⟩ | ⟨hl,he⟩
        ·exact ⟨true,by simp [hl],he,hb⟩
        ·exact ⟨false,by simp [hl],he,hb⟩
       ·refine (zLn k1 t1 u1 o1 m1 g1 n1 n2 A B c d en w).mono fun _ _ h =>bad (fun ⟨_,h⟩ =>en (by rw [← hl1,← hl2,h])) h
      ·subst e1 e2 e3 e4 e5
       exact (zKx k1 t1 u1 o1 m1 g1 g2 n1 n2 A B c d e6 w).mono fun _ _ h =>bad (fun ⟨h,_⟩ =>e6 (by injection h)) h
     ·subst e1 e2 e3 e4
      exact (zJy k1 t1 u1 o1 m1 m2 g1 g2 n1 n2 A B c d e5 w).mono fun _ _ h =>bad (fun ⟨h,_⟩ =>e5 (by injection h)) h
    ·subst e1 e2 e3
     exact (zKw k1 t1 u1 o1 o2 m1 m2 g1 g2 n1 n2 A B c d e4 w).mono fun _ _ h =>bad (fun ⟨h,_⟩ =>e4 (by injection h)) h
   ·subst e1 e2
    exact (zJx k1 t1 u1 u2 o1 o2 m1 m2 g1 g2 n1 n2 A B c d e3 w).mono fun _ _ h =>bad (fun ⟨h,_⟩ =>e3 (by injection h)) h
  ·subst e1
   exact (zIB k1 t1 t2 u1 u2 o1 o2 m1 m2 g1 g2 n1 n2 A B c d e2 w).mono fun _ _ h =>bad (fun ⟨h,_⟩ =>e2 (by injection h)) h
 ·exact (zJw k1 k2 t1 t2 u1 u2 o1 o2 m1 m2 g1 g2 n1 n2 A B c d e1 w).mono fun _ _ h =>bad (fun ⟨h,_⟩ =>e1 (by injection h)) h
theorem zJz (r1 r2:Rc) (A B:Option Addr) (n1 n2 c d:Nat) (l1 l2:List Dp) (hn:n1≤1000000) (w:World) (h1:zAE w w.heap.size 3 A n1 (dps l1)) (h2:zAE w w.heap.size 3 B n2 (dps l2)) :
  Calls Tryz.prog 69 #[rcv r1 A n1 c,rcv r2 B n2 d] w fun e w' =>∃ q:Bool,(q=true ↔ r1=r2∧l1=l2)∧e=.returned (.bool q)∧Below w.heap.size w w':=by
 have hl1:l1.length=n1:=by have:=h1.1;rw [zAd] at this;omega
 have hl2:l2.length=n2:=by have:=h2.1;rw [zAd] at this;omega
 by_cases e:r1=r2
 ·by_cases en:n1=n2
  ·subst e en
   refine (zJD r1 A B n1 c d l1 l2 hn w h1 h2).mono ?_
   rintro e w' ⟨q,hq,he,hb⟩
   exact ⟨q,by simpa using hq,he,hb⟩
  ·subst e
   refine (zJE r1 A B n1 n2 c d en w).mono ?_
   rintro e w' ⟨he,hb⟩
   exact ⟨false,by simp;intro h;exact en (by rw [← hl1,← hl2,h]),he,hb⟩
 ·refine (zID r1 r2 A B n1 n2 c d e w).mono ?_
  rintro e' w' ⟨he,hb⟩
  exact ⟨false,by simp [e],he,hb⟩
def zKL (r:Rc) (l:List Dp):Prop:=r=⟨2,r.target,0,0,0,[]⟩∧l=[]
def MayP (v:Int) (r:Rc) (l:List Dp):Prop:=1≤v∧v≤3∧zAf r.target=true∧((r.kind=1∧zCo v r∧TagP v r∧zCG v r l)∨(r.kind=2∧zKL r l))
theorem zHW (v:Int) (r:Rc) (A:Option Addr) (n c:Nat) (l:List Dp) (hn:n≤5000) (hfit:Fits r l) (w:World) (h:zAE w w.heap.size 3 A n (dps l)) :
  Calls Tryz.prog 39 #[.int .i64 v,rcv r A n c] w fun e w' =>zAX (MayP v r l) e∧Below w.heap.size w w':=by
 have hz:(w.alloc (.cells (zAO r A n c) 37)).heap.size=w.heap.size+1:=by simp
 have H0:=yh (zAI w (.cells (zAO r A n c) 37))
 have HB0:=yh ((Below.refl w.heap.size w).alloc (Nat.le_refl _) (.cells (zAO r A n c) 37))
 have HTIME:Hid (∀ W,Calls Tryz.prog 66 #[.int .i64 v,rcv r A n c] W fun e w' =>zAX (zCo v r) e∧Below W.heap.size W w'):=fun W =>(zKE v r A n c W).mono fun e w' ⟨q,h1,h2,h3⟩ =>⟨⟨q,h1,h2⟩,h3⟩
 have HTAG:Hid (∀ W,Calls Tryz.prog 67 #[.int .i64 v,rcv r A n c] W fun e w' =>zAX (TagP v r) e∧Below W.heap.size W w'):=fun W =>(zLF v r A n c W).mono fun e w' ⟨q,h1,h2,h3⟩ =>⟨⟨q,h1,h2⟩,h3⟩
 have HDEPS:Hid (∀ W,Below w.heap.size w W→Calls Tryz.prog 68 #[.int .i64 v,rcv r A n c] W fun e w' =>zAX (zCG v r l) e∧Below W.heap.size W w'):=fun W hb =>zJX v r A n c l hn hfit.1 hfit.2.2 W ((h.below hb).more hb.size)
 have HSAME:Hid (∀ W,Below w.heap.size w W→Calls Tryz.prog 69 #[rcv r A n c,rcv ⟨2,r.target,0,0,0,[]⟩ none 0 0] W fun e w' =>zAX (zKL r l) e∧Below W.heap.size W w'):=fun W hb =>
  (zJz r ⟨2,r.target,0,0,0,[]⟩ A none n 0 c 0 l [] (by omega) W ((h.below hb).more hb.size) zAE.none_).mono fun e w' ⟨q,h1,h2,h3⟩ =>⟨⟨q,h1,h2⟩,h3⟩
 obtain ⟨k,t,u,o,m,g⟩:=r
 have HNAME:=yh (zGY t)
 clear h hfit
 generalize hW:w.alloc (.cells (zAO ⟨k,t,u,o,m,g⟩ A n c) 37)=W0 at *
 have CELL:∀ {i:Nat} {x:Value},(zAO ⟨k,t,u,o,m,g⟩ A n c)[i]? = some x→∀ {W:World},Below (w.heap.size+1) W0 W→W.cell? ⟨w.heap.size,i,none⟩=some x:=fun hi W hb =>(hb.cell (p:=⟨w.heap.size,_,none⟩) (show w.heap.size<w.heap.size+1 by omega)).trans (zAA H0.out hi)
 have hs:=Below.refl (w.heap.size+1) W0
 have q0:=CELL (i:=0) rfl hs
 have q1:=CELL (i:=1) rfl hs
 have q2:=CELL (i:=2) rfl hs
 have q3:=CELL (i:=3) rfl hs
 have q4:=CELL (i:=4) rfl hs
 have q5:=CELL (i:=5) rfl hs
 have q6:=CELL (i:=6) rfl hs
 subst hW
 have HZ:=yh hz
 have HCELL:Hid (∀ {i:Nat} {x:Value},(zAO ⟨k,t,u,o,m,g⟩ A n c)[i]? = some x→∀ {W:World},Below (w.heap.size+1) (w.alloc (.cells (zAO ⟨k,t,u,o,m,g⟩ A n c) 37)) W→W.cell? ⟨w.heap.size,i,none⟩=some x):=CELL
 clear CELL hs hz
 unfold zAO at *
 unfold rcv rsv at *
 by_cases hv1:v<1
 ·have HP:Hid (¬ MayP v ⟨k,t,u,o,m,g⟩ l):=fun h =>by have:=h.1;omega
  have d1:decide (v<1)=true:=decide_eq_true hv1
  go_enter Tryz.func39,Tryz.ntmps39
  go_wp2
  go_ret
  exact ⟨zAF HP.out,HB0.out⟩
 have d1:decide (v<1)=false:=decide_eq_false hv1
 by_cases hv3:3<v
 ·have HP:Hid (¬ MayP v ⟨k,t,u,o,m,g⟩ l):=fun h =>by have:=h.2.1;omega
  have d3:decide (v > 3)=true:=decide_eq_true hv3
  go_enter Tryz.func39,Tryz.ntmps39
  go_wp2
  go_ret
  exact ⟨zAF HP.out,HB0.out⟩
 have d3:decide (v > 3)=false:=decide_eq_false hv3
 cases hq:zAf t
 ·have HP:Hid (¬ MayP v ⟨k,t,u,o,m,g⟩ l):=fun h =>by have h2:zAf t=true:=h.2.2.1;rw [hq] at h2;cases h2
  rw [hq] at HNAME
  go_enter Tryz.func39,Tryz.ntmps39
  go_wp2_with (go_at_call 65;refine (HNAME.out _).mono ?_;rintro e w2 ⟨rfl,rfl⟩)
  go_ret
  exact ⟨zAF HP.out,HB0.out⟩
 rw [hq] at HNAME
 by_cases hk1:k=1
 ·subst hk1
  by_cases hT:zCo v ⟨1,t,u,o,m,g⟩
  ·have HT:Hid (∀ W,Calls Tryz.prog 66 #[.int .i64 v,.agg #[.int .i64 1,.string (tx t),.int .u64 u,.slice A n c,.int .u64 o,.int .u64 m,.string (tx g)]] W fun e w' =>e=.returned (.bool true)∧Below W.heap.size W w'):=fun W =>(HTIME.out W).mono fun e w' ⟨h1,h2⟩ =>⟨h1.yes hT,h2⟩
   by_cases hG:TagP v ⟨1,t,u,o,m,g⟩
   ·have HG:Hid (∀ W,Calls Tryz.prog 67 #[.int .i64 v,.agg #[.int .i64 1,.string (tx t),.int .u64 u,.slice A n c,.int .u64 o,.int .u64 m,.string (tx g)]] W fun e w' =>e=.returned (.bool true)∧Below W.heap.size W w'):=fun W =>(HTAG.out W).mono fun e w' ⟨h1,h2⟩ =>⟨h1.yes hG,h2⟩
    have HD:Hid (∀ W,Below w.heap.size w W→Calls Tryz.prog 68 #[.int .i64 v,.agg #[.int .i64 1,.string (tx t),.int .u64 u,.slice A n c,.int .u64 o,.int .u64 m,.string (tx g)]] W fun e w' =>∃ q:Bool,e=.returned (.bool q)∧Hid (zAX (MayP v ⟨1,t,u,o,m,g⟩ l) e)∧Below W.heap.size W w'):=fun W hb =>(HDEPS.out W hb).mono fun e w' ⟨h1,h2⟩ =>by
     have h3:zAX (MayP v ⟨1,t,u,o,m,g⟩ l) e:=h1.iff ⟨fun hd =>⟨by omega,by omega,hq,.inl ⟨rfl,hT,hG,hd⟩⟩,fun hm =>by rcases hm.2.2.2 with h | h;exact h.2.2.2;exact absurd h.1 (by simp)⟩
     obtain ⟨q,_,h5⟩:=h1
     exact ⟨q,h5,h3,h2⟩
    clear HTIME HTAG HDEPS HSAME hT hG
    go_enter Tryz.func39,Tryz.ntmps39
    go_wp2_with (first
     | (go_at_call 68;refine (HD.out _ (HB3.out.drew)).mono ?_;rintro e w4 ⟨q,rfl,hq4,hb4⟩;have HB4:=yh (HB3.out.trans (hb4.mono HB3.out.size)))
     | (go_at_call 68;refine (HD.out _ (HB3.out)).mono ?_;rintro e w4 ⟨q,rfl,hq4,hb4⟩;have HB4:=yh (HB3.out.trans (hb4.mono HB3.out.size)))
     | (go_at_call 67;refine (HG.out _).mono ?_;rintro e w3 ⟨rfl,hb3⟩;have HB3:=yh (HB2.out.trans (hb3.mono HB2.out.size));have HS3:=yh (HS2.out.trans (hb3.mono HS2Z.out));have hs30:=HCELL.out (i:=0) rfl HS3.out;have hs31:=HCELL.out (i:=1) rfl HS3.out;have hs32:=HCELL.out (i:=2) rfl HS3.out;have hs33:=HCELL.out (i:=3) rfl HS3.out;have hs34:=HCELL.out (i:=4) rfl HS3.out;have hs35:=HCELL.out (i:=5) rfl HS3.out;have hs36:=HCELL.out (i:=6) rfl HS3.out;clear hb3)
     | (go_at_call 66;refine (HT.out _).mono ?_;rintro e w2 ⟨rfl,hb2⟩;have HB2:=yh (HB0.out.trans (hb2.mono HB0.out.size));have HS2:=yh (hb2.mono (Nat.le_of_eq HZ.out.symm));have HS2Z:Hid (w.heap.size+1≤w2.heap.size):=by { have h1:=hb2.size;rw [HZ.out] at h1;exact h1 };have hs20:=HCELL.out (i:=0) rfl HS2.out;have hs21:=HCELL.out (i:=1) rfl HS2.out;have hs22:=HCELL.out (i:=2) rfl HS2.out;have hs23:=HCELL.out (i:=3) rfl HS2.out;have hs24:=HCELL.out (i:=4) rfl HS2.out;have hs25:=HCELL.out (i:=5) rfl HS2.out;have hs26:=HCELL.out (i:=6) rfl HS2.out;clear hb2)
     | (go_at_call 65;refine (HNAME.out _).mono ?_;rintro e w2 ⟨rfl,rfl⟩))
    go_ret
    exact ⟨hq4.out,HB4.out⟩
   ·have HG:Hid (∀ W,Calls Tryz.prog 67 #[.int .i64 v,.agg #[.int .i64 1,.string (tx t),.int .u64 u,.slice A n c,.int .u64 o,.int .u64 m,.string (tx g)]] W fun e w' =>e=.returned (.bool false)∧Below W.heap.size W w'):=fun W =>(HTAG.out W).mono fun e w' ⟨h1,h2⟩ =>⟨h1.no hG,h2⟩
    have HP:Hid (¬ MayP v ⟨1,t,u,o,m,g⟩ l):=fun hm =>by rcases hm.2.2.2 with h | h;exact hG h.2.2.1;exact absurd h.1 (by simp)
    clear HTIME HTAG HDEPS HSAME hT hG
    go_enter Tryz.func39,Tryz.ntmps39
    go_wp2_with (first
     | (go_at_call 67;refine (HG.out _).mono ?_;rintro e w3 ⟨rfl,hb3⟩;have HB3:=yh (HB2.out.trans (hb3.mono HB2.out.size));clear hb3)
     | (go_at_call 66;refine (HT.out _).mono ?_;rintro e w2 ⟨rfl,hb2⟩;have HB2:=yh (HB0.out.trans (hb2.mono HB0.out.size));have HS2:=yh (hb2.mono (Nat.le_of_eq HZ.out.symm));have hs20:=HCELL.out (i:=0) rfl HS2.out;have hs21:=HCELL.out (i:=1) rfl HS2.out;have hs22:=HCELL.out (i:=2) rfl HS2.out;have hs23:=HCELL.out (i:=3) rfl HS2.out;have hs24:=HCELL.out (i:=4) rfl HS2.out;have hs25:=HCELL.out (i:=5) rfl HS2.out;have hs26:=HCELL.out (i:=6) rfl HS2.out;clear hb2)
     | (go_at_call 65;refine (HNAME.out _).mono ?_;rintro e w2 ⟨rfl,rfl⟩))
    go_ret
    exact ⟨zAF HP.out,HB3.out⟩
  ·have HT:Hid (∀ W,Calls Tryz.prog 66 #[.int .i64 v,.agg #[.int .i64 1,.string (tx t),.int .u64 u,.slice A n c,.int .u64 o,.int .u64 m,.string (tx g)]] W fun e w' =>e=.returned (.bool false)∧Below W.heap.size W w'):=fun W =>(HTIME.out W).mono fun e w' ⟨h1,h2⟩ =>⟨h1.no hT,h2⟩
   have HP:Hid (¬ MayP v ⟨1,t,u,o,m,g⟩ l):=fun hm =>by rcases hm.2.2.2 with h | h;exact hT h.2.1;exact absurd h.1 (by simp)
   clear HTIME HTAG HDEPS HSAME hT
   go_enter Tryz.func39,Tryz.ntmps39
   go_wp2_with (first
    | (go_at_call 66;refine (HT.out _).mono ?_;rintro e w2 ⟨rfl,hb2⟩;have HB2:=yh (HB0.out.trans (hb2.mono HB0.out.size));clear hb2)
    | (go_at_call 65;refine (HNAME.out _).mono ?_;rintro e w2 ⟨rfl,rfl⟩))
   go_ret
   exact ⟨zAF HP.out,HB2.out⟩
 ·have d4:decide (k=1)=false:=decide_eq_false hk1
  have d5:(k == 1)=false:=by rw [beq_eq_false_iff_ne];exact hk1
  by_cases hk2:k=2
  ·subst hk2
   have HD:Hid (∀ W,Below w.heap.size w W→Calls Tryz.prog 69 #[.agg #[.int .i64 2,.string (tx t),.int .u64 u,.slice A n c,.int .u64 o,.int .u64 m,.string (tx g)],.agg #[.int .i64 2,.string (tx t),.int .u64 0,.slice none 0 0,.int .u64 0,.int .u64 0,.string (tx [])]] W fun e w' =>∃ q:Bool,e=.returned (.bool q)∧Hid (zAX (MayP v ⟨2,t,u,o,m,g⟩ l) e)∧Below W.heap.size W w'):=fun W hb =>(HSAME.out W hb).mono fun e w' ⟨h1,h2⟩ =>by
    have h3:zAX (MayP v ⟨2,t,u,o,m,g⟩ l) e:=h1.iff ⟨fun hd =>⟨by omega,by omega,hq,.inr ⟨rfl,hd⟩⟩,fun hm =>by rcases hm.2.2.2 with h | h;exact absurd h.1 (by simp);exact h.2⟩
    obtain ⟨q,_,h5⟩:=h1
    exact ⟨q,h5,h3,h2⟩
   have htx:tx []=(⟨#[]⟩:ByteArray):=rfl
   rw [htx] at HD
   clear HTIME HTAG HDEPS HSAME htx
   go_enter Tryz.func39,Tryz.ntmps39
   go_wp2_with (first
    | (go_at_call 69;refine (HD.out _ HB0.out).mono ?_;rintro e w4 ⟨q,rfl,hq4,hb4⟩;have HB4:=yh (HB0.out.trans (hb4.mono HB0.out.size)))
    | (go_at_call 65;refine (HNAME.out _).mono ?_;rintro e w2 ⟨rfl,rfl⟩))
   go_ret
   exact ⟨hq4.out,HB4.out⟩
  ·have HP:Hid (¬ MayP v ⟨k,t,u,o,m,g⟩ l):=fun hm =>by rcases hm.2.2.2 with h | h;exact hk1 h.1;exact hk2 h.1
   have d6:decide (k=2)=false:=decide_eq_false hk2
   have d7:(k == 2)=false:=by rw [beq_eq_false_iff_ne];exact hk2
   clear HTIME HTAG HDEPS HSAME hk1 hk2
   go_enter Tryz.func39,Tryz.ntmps39
   go_wp2_with (first
    | (go_at_call 65;refine (HNAME.out _).mono ?_;rintro e w2 ⟨rfl,rfl⟩))
   go_ret
   exact ⟨zAF HP.out,HB0.out⟩
def words:List UInt8→List (List UInt8)
 | [] =>[[]]
 | c :: l =>if c=32 then [] :: words l else match words l with
  | [] =>[[c]]
  | w :: ws =>(c :: w) :: ws
theorem zKJ (l:List UInt8):words l≠[]:=by
 cases l with
 | nil =>simp [words]
 | cons c l =>
  unfold words
  split
  ·simp
  ·split <;> simp
theorem zBo:∀ (a:List UInt8),(∀ b ∈ a,b≠32)→words a=[a]
 | [],_ =>rfl
 | c :: a,h =>by
  have ih:=zBo a (fun b hb =>h b (by simp [hb]))
  unfold words
  rw [if_neg (h c (by simp)),ih]
theorem zCF:∀ (a r:List UInt8),(∀ b ∈ a,b≠32)→words (a++32 :: r)=a :: words r
 | [],r,_ =>by
  show words (32 :: r)=_
  rw [words,if_pos rfl]
 | c :: a,r,h =>by
  have ih:=zCF a r (fun b hb =>h b (by simp [hb]))
  show words (c :: (a++32 :: r))=_
  rw [words,if_neg (h c (by simp)),ih]
def zAU (ws:List (List UInt8)):List UInt8:=Lib.join ws [32]
theorem zDq:zAU []=[]:=rfl
theorem zBL (a:List UInt8):zAU [a]=a:=by simp [zAU,Lib.join,List.intercalate]
theorem zAm (a:List UInt8) (ws:List (List UInt8)) (h:ws≠[]):zAU (a :: ws)=a++32 :: zAU ws:=by
 cases ws with
 | nil =>contradiction
 | cons b ws =>simp [zAU,Lib.join,List.intercalate]
theorem zFG (l:List UInt8):(∀ b ∈ l,b≠32) ∨ ∃ a r,l=a++32 :: r∧∀ b ∈ a,b≠32:=by
 induction l with
 | nil =>left;simp
 | cons c l ih =>
  by_cases hc:c=32
  ·subst hc
   exact .inr ⟨[],l,rfl,by simp⟩
  ·rcases ih with ih | ⟨a,r,rfl,ih⟩
   ·left
    intro b hb
    rcases List.mem_cons.1 hb with rfl | hb
    ·exact hc
    ·exact ih b hb
   ·refine .inr ⟨c :: a,r,rfl,?_⟩
    intro b hb
    rcases List.mem_cons.1 hb with rfl | hb
    ·exact hc
    ·exact ih b hb
theorem zEJ:∀ (n:Nat) (l:List UInt8),l.length≤n→zAU (words l)=l
 | 0,l,h =>by
  have:l=[]:=List.eq_nil_of_length_eq_zero (by omega)
  subst this
  rfl
 | n+1,l,h =>by
  rcases zFG l with hm | ⟨a,r,rfl,ha⟩
  ·rw [zBo l hm,zBL]
  ·rw [zCF a r ha,zAm a _ (zKJ r),zEJ n r (by simp at h;omega)]
theorem zDB:∀ (ws:List (List UInt8)),ws≠[]→(∀ w ∈ ws,∀ b ∈ w,b≠32)→words (zAU ws)=ws
 | [],h,_ =>absurd rfl h
 | [a],_,h =>by rw [zBL,zBo a (h a (by simp))]
 | a :: b :: ws,_,h =>by
  rw [zAm a (b :: ws) (by simp),zCF a _ (h a (by simp)),zDB (b :: ws) (by simp) (fun w hw =>h w (by simp [hw]))]
theorem zCz:∀ (n:Nat) (l:List UInt8),l.length≤n→(words l).length≤l.length+1
 | 0,l,h =>by
  have:l=[]:=List.eq_nil_of_length_eq_zero (by omega)
  subst this
  simp [words]
 | n+1,l,h =>by
  rcases zFG l with hm | ⟨a,r,rfl,ha⟩
  ·rw [zBo l hm];simp
  ·rw [zCF a r ha]
   have:=zCz n r (by simp at h;omega)
   simp
   omega
theorem zGL:∀ {a:List UInt8},(∀ b ∈ a,b≠32)→Lib.indexByte a 32 = -1
 | [],_ =>rfl
 | c :: a,h =>by
  have ih:=zGL (a:=a) (fun b hb =>h b (by simp [hb]))
  have hc:(c == 32)=false:=by simpa using h c (by simp)
  unfold Lib.indexByte
  rw [hc,ih]
  rfl
theorem zHT:∀ {a r:List UInt8},(∀ b ∈ a,b≠32)→Lib.indexByte (a++32 :: r) 32=(a.length:Int)
 | [],r,_ =>by simp [Lib.indexByte]
 | c :: a,r,h =>by
  have ih:=zHT (a:=a) (r:=r) (fun b hb =>h b (by simp [hb]))
  have hc:(c == 32)=false:=by simpa using h c (by simp)
  show Lib.indexByte (c :: (a++32 :: r)) 32=_
  unfold Lib.indexByte
  rw [hc,ih]
  have h2:((a.length:Int) == -1)=false:=by rw [beq_eq_false_iff_ne];omega
  simp [h2]
theorem zHD (sep:ByteArray) (hsep:sep=tx [32]):∀ (n:Nat) (l:List UInt8),l.length≤n→(Lib.splitB sep 0 (Lib.countB (tx l) sep) (tx l)).map Value.string=(words l).map tsv∧Lib.countB (tx l) sep+1=(words l).length:=by
 have h1s:1≤sep.size:=by rw [hsep,zAK];simp
 have hix:∀ l:List UInt8,Lib.indexB (tx l) sep=Lib.indexByte l 32:=fun l =>by
  rw [hsep]
  show Lib.index (tx l).data.toList (tx [32]).data.toList=_
  exact Lib.index_one _ _
 have hsz:sep.size=1:=by rw [hsep,zAK];rfl
 have hex:∀ (a r:List UInt8),(tx (a++32 :: r)).extract (a.length+sep.size) (tx (a++32 :: r)).size=tx r:=fun a r =>by
  rw [hsz]
  apply ByteArray.ext
  simp [tx,ByteArray.data_extract,ByteArray.size]
  rw [show a.length+(r.length+1) - (a.length+1)=r.length by omega,List.take_length]
 have hex0:∀ (a r:List UInt8),(tx (a++32 :: r)).extract 0 (a.length+0)=tx a:=fun a r =>by
  apply ByteArray.ext
  simp [tx,ByteArray.data_extract]
 intro n
 induction n with
 | zero =>
  intro l h
  have:l=[]:=List.eq_nil_of_length_eq_zero (by omega)
  subst this
  have hm:Lib.indexB (tx []) sep = -1:=by rw [hix];rfl
  rw [Lib.countB_miss _ _ hm,Lib.splitB_miss _ _ _ _ hm]
  exact ⟨rfl,rfl⟩
 | succ n ih =>
  intro l h
  rcases zFG l with hm | ⟨a,r,rfl,ha⟩
  ·have hm2:Lib.indexB (tx l) sep = -1:=by rw [hix];exact zGL hm
   rw [Lib.countB_miss _ _ hm2,Lib.splitB_miss _ _ _ _ hm2,zBo l hm]
   exact ⟨rfl,rfl⟩
  ·have hh:Lib.indexB (tx (a++32 :: r)) sep=(a.length:Int):=by rw [hix];exact zHT ha
   have hr:=ih r (by simp at h;omega)
   rw [Lib.countB_hit _ _ a.length h1s hh,hex,zCF a r ha,Nat.add_comm 1,Lib.splitB_hit _ _ _ _ a.length hh,hex,hex0,List.map_cons,hr.1,List.length_cons]
   exact ⟨rfl,by omega⟩
theorem zFK {w:World} {a:Addr} {v:Value} (h:w.cell? a=some v):a=⟨a.block,a.off,none⟩:=by
 obtain ⟨b,o,s⟩:=a
 cases s with
 | none =>rfl
 | some x =>
  unfold World.cell? at h
  split at h
  ·simp at h
  ·cases h
theorem zEn (xs:List (List UInt8)):Lib.join ((xs.map tx).map (·.data.toList)) ({ data:=#[32] }:ByteArray).data.toList=zAU xs:=by
 unfold zAU
 congr 1
 rw [List.map_map]
 conv =>rhs;rw [← List.map_id xs]
 apply List.map_congr_left
 intro a _
 simp [tx]
theorem zHk (L:Option Addr) (n c:Nat) (ws:List (List UInt8)) (hc:n≤c) (hn:n≤1000000) (hj:(zAU ws).length≤100000000) (w:World) (hr:zAE w w.heap.size 1 L n (ws.map tsv)) :
  Calls Tryz.prog 28 #[.slice L n c] w fun e w' =>e=.returned (.string (tx (zAU ws)))∧Below w.heap.size w w':=by
 have hln:ws.length=n:=by have:=hr.1;simpa using this
 have H:Hid (Calls Tryz.prog 54 #[.slice L n c,.string { data:=#[32] }] w fun e w' =>e=.returned (.string (tx (zAU ws)))∧Below w.heap.size w w'):=by
  by_cases h0:n=0
  ·subst h0
   have:ws=[]:=List.eq_nil_of_length_eq_zero hln
   subst this
   refine (Tryz.strings_Join_none L c { data:=#[32] } w).mono ?_
   rintro e w' ⟨rfl,rfl⟩
   exact ⟨rfl,Below.refl _ _⟩
  ·obtain ⟨ad,rfl,hlt,hcell⟩:=hr.2 (by omega)
   obtain ⟨x0,hx0⟩:∃ x0,ws[0]? = some x0:=⟨_,List.getElem?_eq_getElem (by omega)⟩
   have hsp:=zFK (show w.cell? ad=some (tsv x0) from by
    have:=hcell 0 (tsv x0) (by rw [List.getElem?_map,hx0];rfl)
    simpa [Addr.add] using this)
   obtain ⟨bk,o,sp⟩:=ad
   have hsp2:sp=none:=congrArg Addr.spot hsp
   subst hsp2
   have h2:=Tryz.strings_Join bk o c (ws.map tx) { data:=#[32] } w (fun j x hx =>by
    rw [List.getElem?_map] at hx
    obtain ⟨y,hy,rfl⟩:=Option.map_eq_some_iff.1 hx
    have:=hcell j (tsv y) (by rw [List.getElem?_map,hy];rfl)
    rw [show (⟨bk,o,none⟩:Addr).add j=⟨bk,o+j,none⟩ from by unfold Addr.add;split <;> simp_all] at this
    exact this) hlt (by simp;omega) (by simp;omega) (by rw [zEn];omega)
   rw [zEn,List.length_map,hln] at h2
   exact h2
 clear hr
 go_enter Tryz.func28,Tryz.ntmps28
 go_wp2_with fail
 refine H.out.mono ?_
 rintro e w3 ⟨rfl,hb⟩
 go_wp2
 go_ret
 exact ⟨rfl,hb⟩
theorem zDT:∀ (ws:List (List UInt8)) (a:List UInt8),ws≠[]→zAU (ws++[a])=zAU ws++32 :: a
 | [],a,h =>absurd rfl h
 | [b],a,_ =>by
  show zAU (b :: [a])=_
  rw [zAm b [a] (by simp),zBL,zBL]
 | b :: c :: ws,a,_ =>by
  show zAU (b :: ((c :: ws)++[a]))=_
  rw [zAm b _ (by simp),zDT (c :: ws) a (by simp),zAm b (c :: ws) (by simp)]
  simp
theorem zDU:∀ (ws:List (List UInt8)),(∀ x ∈ ws,x.length≤2000)→(zAU ws).length≤2001 * ws.length
 | [],_ =>by simp [zDq]
 | [a],h =>by rw [zBL];have:=h a (by simp);simp;omega
 | a :: b :: ws,h =>by
  have h1:=zDU (b :: ws) (fun x hx =>h x (by simp [hx]))
  have h2:=h a (by simp)
  rw [zAm a (b :: ws) (by simp),List.length_append,List.length_cons,List.length_cons]
  omega
theorem zKq {w:World} {base n c size:Nat} {e:TypeId} {A:Option Addr} {xs:List Value} (h:w.ownsRow base e size (.slice A n c) n xs):n≤c:=by
 rcases h.2 with ⟨h3,h4⟩ | ⟨g,cap,cur,h3,_,_,hn,_⟩
 ·omega
 ·injection h3 with _ _ h3
  omega
end Go.Proofs.YtgoklhoaedceaaaGreatDoor
