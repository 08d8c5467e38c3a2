/- Texts of one proof. -/
import Derived.Deep.Slices
import Derived.Deep.Strs
import Derived.Test.YtekchkfjgofnkaaGreatDoorMy19
set_option maxRecDepth 100000
set_option maxHeartbeats 8000000
namespace Go.Proofs.YtekchkfjgofnkaaGreatDoor
open Go.RowKit
def zRec:Obj:=.cells #[.int .i64 0,.string ⟨#[]⟩,.int .u64 0,.slice none 0 0,.int .u64 0,.int .u64 0,.string ⟨#[]⟩] 41
def zCo (ver:Int) (bt n c:Nat) (A:Option Addr) (w:World):Prop :=
 Calls Tryz.prog 103 #[.int .i64 ver,.pointer (some ⟨bt,0,none⟩),.slice A n c,.int .i64 (n:Int)] w fun e w' =>e=.returned (.tuple #[.agg #[.int .i64 0,.string ⟨#[]⟩,.int .u64 0,.slice none 0 0,.int .u64 0,.int .u64 0,.string ⟨#[]⟩],.int .i64 0,.int .i64 6])∧Below w.heap.size w w'
theorem zNA (ver:Int) (hv:1≤ver∧ver≤3) (bt:Nat)  (w:World) (HAH:Hid (Calls Tryz.prog 115 #[.slice none 0 0] (w.alloc zRec) fun e w' =>e=.returned (.int .i64 ((zAf []:Nat):Int))∧w.alloc zRec=w')):zCo ver bt 0 0 none w:=by
 have h0:=zAE w (.cells #[.int .i64 0,.string ⟨#[]⟩,.int .u64 0,.slice none 0 0,.int .u64 0,.int .u64 0,.string ⟨#[]⟩] 41)
 have HA0:=yh h0
 have HB0:=yh ((Below.refl w.heap.size w).alloc (Nat.le_refl _) (.cells #[.int .i64 0,.string ⟨#[]⟩,.int .u64 0,.slice none 0 0,.int .u64 0,.int .u64 0,.string ⟨#[]⟩] 41))
 have q0:=zAA (i:=0) h0 rfl
 have y0:=zAC (i:=0) h0
 have q1:=zAA (i:=1) h0 rfl
 have y1:=zAC (i:=1) h0
 have q2:=zAA (i:=2) h0 rfl
 have y2:=zAC (i:=2) h0
 have q3:=zAA (i:=3) h0 rfl
 have y3:=zAC (i:=3) h0
 have q4:=zAA (i:=4) h0 rfl
 have y4:=zAC (i:=4) h0
 have q5:=zAA (i:=5) h0 rfl
 have y5:=zAC (i:=5) h0
 have q6:=zAA (i:=6) h0 rfl
 have y6:=zAC (i:=6) h0
 clear h0
 have d1:decide (ver<1)=false:=decide_eq_false (by omega)
 have d2:decide (ver > 3)=false:=decide_eq_false (by omega)
 have hv1:=hv.1
 have hv3:=hv.2
 clear hv
 unfold zRec at HAH
 unfold zCo
 simp only [zAf] at HAH
 go_enter Tryz.func103,Tryz.ntmps103
 go_wp2_with (go_at_call 115;refine HAH.out.mono ?_;rintro e w3 ⟨rfl,rfl⟩)
 refine bodyPost_ret (zAp rfl _ _ _ _ _ _ _ rfl HA0.out Tryz.underlying41 rfl (by kernel_rfl)) rfl ?_
 exact ⟨rfl,HB0.out⟩
theorem zNB (ver:Int) (hv:1≤ver∧ver≤3) (bt:Nat) (n:Nat) (hn:n≤100000) (ad:Addr) (w:World) (HAH:Hid (Calls Tryz.prog 115 #[.slice (some ad) 0 0] (w.alloc zRec) fun e w' =>e=.returned (.int .i64 ((zAf []:Nat):Int))∧w.alloc zRec=w')):zCo ver bt n n (some ad) w:=by
 have h0:=zAE w (.cells #[.int .i64 0,.string ⟨#[]⟩,.int .u64 0,.slice none 0 0,.int .u64 0,.int .u64 0,.string ⟨#[]⟩] 41)
 have HA0:=yh h0
 have HB0:=yh ((Below.refl w.heap.size w).alloc (Nat.le_refl _) (.cells #[.int .i64 0,.string ⟨#[]⟩,.int .u64 0,.slice none 0 0,.int .u64 0,.int .u64 0,.string ⟨#[]⟩] 41))
 have q0:=zAA (i:=0) h0 rfl
 have y0:=zAC (i:=0) h0
 have q1:=zAA (i:=1) h0 rfl
 have y1:=zAC (i:=1) h0
 have q2:=zAA (i:=2) h0 rfl
 have y2:=zAC (i:=2) h0
 have q3:=zAA (i:=3) h0 rfl
 have y3:=zAC (i:=3) h0
 have q4:=zAA (i:=4) h0 rfl
 have y4:=zAC (i:=4) h0
 have q5:=zAA (i:=5) h0 rfl
 have y5:=zAC (i:=5) h0
 have q6:=zAA (i:=6) h0 rfl
 have y6:=zAC (i:=6) h0
 clear h0
 have d1:decide (ver<1)=false:=decide_eq_false (by omega)
 have d2:decide (ver > 3)=false:=decide_eq_false (by omega)
 have hv1:=hv.1
 have hv3:=hv.2
 clear hv
 unfold zRec at HAH
 unfold zCo
 simp only [zAf] at HAH
 go_enter Tryz.func103,Tryz.ntmps103
 go_wp2_with (go_at_call 115;refine HAH.out.mono ?_;rintro e w3 ⟨rfl,rfl⟩)
 refine bodyPost_ret (zAp rfl _ _ _ _ _ _ _ rfl HA0.out Tryz.underlying41 rfl (by kernel_rfl)) rfl ?_
 exact ⟨rfl,HB0.out⟩
theorem zNC (ver:Int) (hv:1≤ver∧ver≤3) (bt:Nat) (n c:Nat) (hc:n<c) (hn:n≤100000) (ad:Addr) (w:World) (HAH:Hid (Calls Tryz.prog 115 #[.slice (some (ad.add n)) 0 (c - n)] (w.alloc zRec) fun e w' =>e=.returned (.int .i64 ((zAf []:Nat):Int))∧w.alloc zRec=w')):zCo ver bt n c (some ad) w:=by
 have h0:=zAE w (.cells #[.int .i64 0,.string ⟨#[]⟩,.int .u64 0,.slice none 0 0,.int .u64 0,.int .u64 0,.string ⟨#[]⟩] 41)
 have HA0:=yh h0
 have HB0:=yh ((Below.refl w.heap.size w).alloc (Nat.le_refl _) (.cells #[.int .i64 0,.string ⟨#[]⟩,.int .u64 0,.slice none 0 0,.int .u64 0,.int .u64 0,.string ⟨#[]⟩] 41))
 have q0:=zAA (i:=0) h0 rfl
 have y0:=zAC (i:=0) h0
 have q1:=zAA (i:=1) h0 rfl
 have y1:=zAC (i:=1) h0
 have q2:=zAA (i:=2) h0 rfl
 have y2:=zAC (i:=2) h0
 have q3:=zAA (i:=3) h0 rfl
 have y3:=zAC (i:=3) h0
 have q4:=zAA (i:=4) h0 rfl
 have y4:=zAC (i:=4) h0
 have q5:=zAA (i:=5) h0 rfl
 have y5:=zAC (i:=5) h0
 have q6:=zAA (i:=6) h0 rfl
 have y6:=zAC (i:=6) h0
 clear h0
 have d1:decide (ver<1)=false:=decide_eq_false (by omega)
 have d2:decide (ver > 3)=false:=decide_eq_false (by omega)
 have hv1:=hv.1
 have hv3:=hv.2
 clear hv
 unfold zRec at HAH
 unfold zCo
 simp only [zAf] at HAH
 go_enter Tryz.func103,Tryz.ntmps103
 go_wp2_with (go_at_call 115;refine HAH.out.mono ?_;rintro e w3 ⟨rfl,rfl⟩)
 refine bodyPost_ret (zAp rfl _ _ _ _ _ _ _ rfl HA0.out Tryz.underlying41 rfl (by kernel_rfl)) rfl ?_
 exact ⟨rfl,HB0.out⟩
theorem zOw (ver:Int) (hv:1≤ver∧ver≤3) (bt n c B:Nat) (ps:List (List UInt8)) (A:Option Addr) (hA:A=none→n=0∧c=0) (hn:n≤100000) (w:World) (hB:B≤w.heap.size) (hr:PlsC w B A n c ps):zCo ver bt n c A w:=by
 have hd:=hr.drop (k:=n) (Nat.le_refl _)
 rw [List.drop_of_length_le (by rw [hr.2.1];exact Nat.le_refl _),Nat.sub_self] at hd
 have hah:=fun W hb =>zDk B 0 (c - n) [] _ (by omega) W (hd.below hb)
 have hcn:=hr.1
 have hb0:=((Below.refl w.heap.size w).alloc (Nat.le_refl _) zRec).mono hB
 cases A with
 | none =>
  obtain ⟨rfl,rfl⟩:=hA rfl
  have h1:=hah _ hb0
  simp only [Nat.sub_self] at h1
  refine zNA ver hv bt w (yh ?_)
  simpa using h1
 | some ad =>
  by_cases hc:c=n
  ·subst hc
   have h1:=hah _ hb0
   rw [if_pos rfl,Nat.sub_self] at h1
   exact zNB ver hv bt c hn ad w (yh h1)
  ·have h1:=hah _ hb0
   rw [if_neg hc] at h1
   exact zNC ver hv bt n c (by omega) hn ad w (yh h1)
open Go.ChangeShapes Go.WideShapes Go.ChangeAt Go.RowKit Go.Deep
theorem zAy {cs:List Value} {j:Nat} {v:Value} (h:(cs.drop j).take 1=[v]):cs[j]? = some v:=by
 have:=congrArg (fun l:List Value =>l[0]?) h
 simpa using this
theorem zFo (s:ByteArray):tx s.data.toList=s:=by
 cases s
 simp [tx]
theorem zJJ (W:World) (ad:Addr):∀ n:Nat,(∀ i,i<n→∃ d:Dp,d.name.length≤maxLen∧W.cell? (ad.add (i * 3))=some (rsv d.name)∧W.cell? (ad.add (i * 3+1))=some (.int .u64 d.hash)∧W.cell? (ad.add (i * 3+2))=some (.bool d.order)) →
  ∃ l:List Dp,l.length=n∧(∀ d ∈ l,d.name.length≤maxLen)∧∀ i d,l[i]? = some d→W.cell? (ad.add (i * 3))=some (rsv d.name)∧W.cell? (ad.add (i * 3+1))=some (.int .u64 d.hash)∧W.cell? (ad.add (i * 3+2))=some (.bool d.order)
 | 0,_ =>⟨[],rfl,by simp,by simp⟩
 | n+1,h =>by
  obtain ⟨ts,h1,h2,h3⟩:=zJJ W ad n (fun i hi =>h i (by omega))
  obtain ⟨t,g1,g2⟩:=h n (by omega)
  refine ⟨ts++[t],by simp [h1],?_,?_⟩
  ·intro u hu
   rcases List.mem_append.1 hu with hu | hu
   ·exact h2 u hu
   ·have:u=t:=by simpa using hu
    rw [this];exact g1
  ·intro i u hu
   rcases Nat.lt_or_ge i ts.length with hlt | hge
   ·rw [List.getElem?_append_left hlt] at hu
    exact h3 i u hu
   ·rw [List.getElem?_append_right hge] at hu
    have hi:i=n:=by
     rcases Nat.lt_or_ge (i - ts.length) 1 with h4 | h4
     ·omega
     ·rw [List.getElem?_eq_none (by simpa using h4)] at hu;cases hu
    subst hi
    rw [h1,Nat.sub_self] at hu
    have:t=u:=by simpa using hu
    rw [← this];exact g2
theorem zJK:∀ (l:List Dp) (j:Nat) (u:Value),(dps l)[j]? = some u→∃ t,l[j / 3]? = some t∧((j % 3=0∧u=rsv t.name)∨(j % 3=1∧u=.int .u64 t.hash)∨(j % 3=2∧u=.bool t.order))
 | [],j,u,h =>by simp [dps] at h
 | a :: l,j,u,h =>by
  have e:(Dp.cells a++dps l)[j]? = some u:=h
  rcases Nat.lt_or_ge j 3 with hlt | hge
  ·rw [List.getElem?_append_left (by simp [Dp.cells];omega)] at e
   refine ⟨a,by rw [show j / 3=0 by omega];rfl,?_⟩
   obtain rfl | rfl | rfl:j=0∨j=1∨j=2:=by omega
   ·exact .inl ⟨rfl,(Option.some.inj e).symm⟩
   ·exact .inr (.inl ⟨rfl,(Option.some.inj e).symm⟩)
   ·exact .inr (.inr ⟨rfl,(Option.some.inj e).symm⟩)
  ·rw [List.getElem?_append_right (by simp [Dp.cells];omega)] at e
   have e2:(dps l)[j - 3]? = some u:=e
   obtain ⟨t,h1,h2⟩:=zJK l (j - 3) u e2
   refine ⟨t,by rw [show j / 3=(j - 3) / 3+1 by omega];simpa using h1,?_⟩
   rw [show j % 3=(j - 3) % 3 by omega]
   exact h2
theorem zQT:Tryz.prog.cellsOf 95=3:=by kernel_rfl
theorem zGG:Tryz.prog.cellsOf 9=1:=by kernel_rfl
theorem zEV:Tryz.prog.cellsOf 38=1:=by kernel_rfl
theorem zMf:Tryz.prog.cellsOf 4=1:=by kernel_rfl
theorem zHB:Tryz.prog.cellsOf 3=1:=by kernel_rfl
theorem zMg:Tryz.prog.cellsOf 39=1:=by kernel_rfl
theorem zIt:Tryz.prog.cellsOf 41=7:=by kernel_rfl
theorem zNa {H:Type} {enc:TypeId×Value→H} {W:World} {fuel:Nat} {cs:List Value} {x:DataW H×List MemPlace} (hf:DataW.trod enc Tryz.prog W 0 (fun _ =>true) true fuel 39 cs=some x) :
  ∃ (A:Option Addr) (n c:Nat) (l:List Dp),cs=[.slice A n c]∧n≤maxLen∧(A=none→c=0)∧(∀ d ∈ l,d.name.length≤maxLen)∧zAD W W.heap.size 3 A n (dps l):=by
 rcases Go.Deep.open_slice Tryz.underlying39 hf with ⟨hcs,_⟩ | ⟨ad,n,c,m,k,D,Pl,hcs,_,hl,hmx,hm,_,hi⟩
 ·exact ⟨none,0,0,[],hcs,by omega,fun _ =>rfl,by simp,by simp [dps],fun h =>absurd h (by omega)⟩
 ·have hnm:n≤m:=by rw [hm];simp;exact hl
  have hall:∀ i,i<n→∃ d:Dp,d.name.length≤maxLen∧W.cell? (ad.add (i * 3))=some (rsv d.name)∧W.cell? (ad.add (i * 3+1))=some (.int .u64 d.hash)∧W.cell? (ad.add (i * 3+2))=some (.bool d.order):=by
   intro i hin
   obtain ⟨cs,hcell,htr⟩:=hi i (by omega)
   rw [zQT] at hcell
   obtain ⟨_,_,hat⟩:=World.cells?_some hcell
   obtain ⟨y0,y1,y2,n',_,_,g0,g1,g2⟩:=trod_struct3 Tryz.underlying95 htr
   rw [zGG] at g0
   rw [zEV] at g1
   rw [zMf] at g2
   obtain ⟨z0,e0,_,w0⟩:=DataW.trod_string Tryz.underlying9 g0
   obtain ⟨z1,e1,_,w1⟩:=DataW.trod_int Tryz.underlying38 g1
   obtain ⟨z2,e2,_⟩:=DataW.trod_bool Tryz.underlying4 g2
   refine ⟨⟨z0.data.toList,z1,z2⟩,by rw [Array.length_toList];exact w0,?_,?_,?_⟩
   ·have h:=hat 0 (by omega)
    rw [zCL,zAy e0] at h
    show _=some (rsv z0.data.toList)
    rw [rsv,zFo]
    exact h
   ·have h:=hat 1 (by omega)
    rw [zCL,zAy e1] at h
    exact h
   ·have h:=hat 2 (by omega)
    rw [zCL,zAy e2] at h
    exact h
  obtain ⟨l,h1,h2,h3⟩:=zJJ W ad n hall
  refine ⟨some ad,n,c,l,hcs,by omega,fun h =>(by cases h),h2,by rw [zAn,h1],fun hn =>⟨ad,rfl,?_,fun j u hu =>?_⟩⟩
  ·obtain ⟨t,_,h4,_⟩:=hall 0 hn
   have:=zHm h4
   rwa [zAQ] at this
  ·obtain ⟨t,g1,g2⟩:=zJK l j u hu
   obtain ⟨q0,q1,q2⟩:=h3 _ t g1
   rcases g2 with ⟨hj,rfl⟩ | ⟨hj,rfl⟩ | ⟨hj,rfl⟩
   ·rw [show j / 3 * 3=j by omega] at q0;exact q0
   ·rw [show j / 3 * 3+1=j by omega] at q1;exact q1
   ·rw [show j / 3 * 3+2=j by omega] at q2;exact q2
theorem zFy {H:Type} {enc:TypeId×Value→H} {P:Program} {w:World} {base:Nat} {spare:Nat→Bool} {held:Bool} {t:TypeId} {f0 f1 f2 f3 f4 f5 f6:Field} {fuel:Nat} {cs:List Value} {x:DataW H×List MemPlace} (ht:P.underlying t=some (.struct #[f0,f1,f2,f3,f4,f5,f6])) (h:DataW.trod enc P w base spare held fuel t cs=some x) :
  ∃ y0 y1 y2 y3 y4 y5 y6 n,cs.length=P.cellsOf t∧DataW.trod enc P w base spare held n f0.type ((cs.drop f0.offset).take (P.cellsOf f0.type))=some y0∧DataW.trod enc P w base spare held n f1.type ((cs.drop f1.offset).take (P.cellsOf f1.type))=some y1∧DataW.trod enc P w base spare held n f2.type ((cs.drop f2.offset).take (P.cellsOf f2.type))=some y2∧DataW.trod enc P w base spare held n f3.type ((cs.drop f3.offset).take (P.cellsOf f3.type))=some y3∧DataW.trod enc P w base spare held n f4.type ((cs.drop f4.offset).take (P.cellsOf f4.type))=some y4∧DataW.trod enc P w base spare held n f5.type ((cs.drop f5.offset).take (P.cellsOf f5.type))=some y5∧DataW.trod enc P w base spare held n f6.type ((cs.drop f6.offset).take (P.cellsOf f6.type))=some y6:=by
 obtain ⟨xs,n,_,rfl,hl,hlen,hf⟩:=DataW.trod_struct ht h
 match xs,hlen with
 | [y0,y1,y2,y3,y4,y5,y6],_ =>exact ⟨y0,y1,y2,y3,y4,y5,y6,n,hl,by simpa using hf 0 f0 rfl,by simpa using hf 1 f1 rfl,by simpa using hf 2 f2 rfl,by simpa using hf 3 f3 rfl,by simpa using hf 4 f4 rfl,by simpa using hf 5 f5 rfl,by simpa using hf 6 f6 rfl⟩
theorem zEf {H:Type} {enc:TypeId×Value→H} {W:World} {fuel:Nat} {cs:List Value} {x:DataW H×List MemPlace} (hf:DataW.trod enc Tryz.prog W 0 (fun _ =>true) true fuel 41 cs=some x) :
  ∃ (r:Rc) (A:Option Addr) (n c:Nat) (l:List Dp),cs=(zAh r A n c).toList∧n≤maxLen∧(A=none→c=0)∧Fits r l∧zAD W W.heap.size 3 A n (dps l):=by
 obtain ⟨y0,y1,y2,y3,y4,y5,y6,n',hl,g0,g1,g2,g3,g4,g5,g6⟩:=zFy Tryz.underlying41 hf
 rw [zIt] at hl
 rw [zHB] at g0
 rw [zGG] at g1
 rw [zEV] at g2
 rw [zMg] at g3
 rw [zEV] at g4
 rw [zEV] at g5
 rw [zGG] at g6
 obtain ⟨z0,e0,_,w0⟩:=DataW.trod_int Tryz.underlying3 g0
 obtain ⟨z1,e1,_,w1⟩:=DataW.trod_string Tryz.underlying9 g1
 obtain ⟨z2,e2,_,w2⟩:=DataW.trod_int Tryz.underlying38 g2
 obtain ⟨A,n,c,l,e3,hn,hA,hd,hr⟩:=zNa g3
 obtain ⟨z4,e4,_,w4⟩:=DataW.trod_int Tryz.underlying38 g4
 obtain ⟨z5,e5,_,w5⟩:=DataW.trod_int Tryz.underlying38 g5
 obtain ⟨z6,e6,_,w6⟩:=DataW.trod_string Tryz.underlying9 g6
 refine ⟨⟨z0,z1.data.toList,z2,z4,z5,z6.data.toList⟩,A,n,c,l,?_,hn,hA,⟨by rw [Array.length_toList];exact w1,by rw [Array.length_toList];exact w6,hd⟩,hr⟩
 match cs,hl with
 | [c0,c1,c2,c3,c4,c5,c6],_ =>
  have f0:=zAy e0
  have f1:=zAy e1
  have f2:=zAy e2
  have f3:=zAy e3
  have f4:=zAy e4
  have f5:=zAy e5
  have f6:=zAy e6
  simp at f0 f1 f2 f3 f4 f5 f6
  subst f0 f1 f2 f3 f4 f5 f6
  unfold zAh
  simp only [zFo]
theorem wf64 {z:Int} (h:(Lit.int .u64 z).wf=true):0≤z∧z<18446744073709551616:=by
 have hx:0≤z∧z≤18446744073709551615:=by simpa [Lit.wf,IntKind.min,IntKind.max,IntKind.signed,IntKind.bits] using h
 omega
theorem zMj {H:Type} {enc:TypeId×Value→H} {W:World} {fuel:Nat} {A:Option Addr} {n c:Nat} {l:List Dp} {x:DataW H×List MemPlace} (hf:DataW.trod enc Tryz.prog W 0 (fun _ =>true) true fuel 39 [.slice A n c]=some x) (hr:zAD W W.heap.size 3 A n (dps l)):∀ d ∈ l,0≤d.hash∧d.hash<18446744073709551616:=by
 have hln:l.length=n:=by have:=hr.1;rw [zAn] at this;omega
 rcases Go.Deep.open_slice Tryz.underlying39 hf with ⟨hcs,_⟩ | ⟨ad,n',c',m,k,D,Pl,hcs,_,hl,hmx,hm,_,hi⟩
 ·have h1:n=0:=by injection hcs with h1;injection h1
  intro d hd
  have:l=[]:=List.eq_nil_of_length_eq_zero (by omega)
  rw [this] at hd
  cases hd
 ·obtain ⟨rfl,rfl,rfl⟩:A=some ad∧n=n'∧c=c':=by
   injection hcs with h1 _
   injection h1 with h2 h3 h4
   exact ⟨h2,h3,h4⟩
  intro d hd
  obtain ⟨i,hlt,hid⟩:=List.mem_iff_getElem.1 hd
  have hid':l[i]? = some d:=by rw [List.getElem?_eq_getElem hlt,hid]
  obtain ⟨_,g,_⟩:=zCl l i d hid'
  obtain ⟨ad',hae,_,hc⟩:=hr.2 (by omega)
  obtain rfl:ad=ad':=Option.some.inj hae
  have hcell:=hc _ _ g
  have hnm:n≤m:=by rw [hm];simp;exact hl
  obtain ⟨cs,hcs2,htr⟩:=hi i (by omega)
  rw [zQT] at hcs2
  obtain ⟨_,_,hat⟩:=World.cells?_some hcs2
  obtain ⟨y0,y1,y2,nn,_,_,g0,g1,g2⟩:=trod_struct3 Tryz.underlying95 htr
  rw [zGG] at g0
  rw [zEV] at g1
  rw [zMf] at g2
  obtain ⟨z1,e1,_,w1⟩:=DataW.trod_int Tryz.underlying38 g1
  have h:=hat 1 (by omega)
  rw [zCL,zAy e1] at h
  have h2:some (Value.int .u64 z1)=some (Value.int .u64 d.hash):=h.symm.trans hcell
  injection h2 with h3
  injection h3 with _ h4
  rw [← h4]
  exact wf64 w1
theorem zEh {H:Type} {enc:TypeId×Value→H} {W:World} {fuel:Nat} {r:Rc} {A:Option Addr} {n c:Nat} {l:List Dp} {x:DataW H×List MemPlace} (hf:DataW.trod enc Tryz.prog W 0 (fun _ =>true) true fuel 41 (zAh r A n c).toList=some x) (hr:zAD W W.heap.size 3 A n (dps l)):Nums r l:=by
 obtain ⟨y0,y1,y2,y3,y4,y5,y6,n',hl,g0,g1,g2,g3,g4,g5,g6⟩:=zFy Tryz.underlying41 hf
 rw [zHB] at g0
 rw [zGG] at g1
 rw [zEV] at g2
 rw [zMg] at g3
 rw [zEV] at g4
 rw [zEV] at g5
 obtain ⟨z2,e2,_,w2⟩:=DataW.trod_int Tryz.underlying38 g2
 obtain ⟨z4,e4,_,w4⟩:=DataW.trod_int Tryz.underlying38 g4
 obtain ⟨z5,e5,_,w5⟩:=DataW.trod_int Tryz.underlying38 g5
 have f2:Value.int .u64 r.rule=.int .u64 z2:=Option.some.inj (zAy e2)
 have f4:Value.int .u64 r.out=.int .u64 z4:=Option.some.inj (zAy e4)
 have f5:Value.int .u64 r.time=.int .u64 z5:=Option.some.inj (zAy e5)
 injection f2 with _ f2
 injection f4 with _ f4
 injection f5 with _ f5
 refine ⟨by rw [f2];exact wf64 w2,by rw [f4];exact wf64 w4,by rw [f5];exact wf64 w5,zMj (A:=A) (n:=n) (c:=c) g3 hr⟩
theorem zLz {H:Type} {enc:TypeId×Value→H} {W:World} {v:Value} {d:DataW H} {ps:List MemPlace} {r0:Reach} {b0:Nat} (hval:Value.okWide Tryz.prog W r0 b0 33 v) (hd:DataW.Trod enc Tryz.prog W 0 (fun _ =>true) true 33 v d ps) :
  ∃ (A:Option Addr) (n c:Nat) (xs:List Rw),v=.slice A n c∧n≤maxLen∧(A=none→c=0)∧(∀ x ∈ xs,Fits x.r x.l∧x.n≤maxLen∧Nums x.r x.l)∧Recs W W.heap.size A n xs:=by
 obtain ⟨A0,n0,c0,rfl⟩:=okWide_slice Tryz.underlying33 hval
 obtain ⟨fuel,hf⟩:=hd
 rcases Go.Deep.open_slice Tryz.underlying33 hf with ⟨hcs,_⟩ | ⟨ad,n,c,m,k,D,Pl,hcs,_,hl,hmx,hm,_,hi⟩
 ·have e:Value.slice A0 n0 c0=.slice none 0 0:=by simpa [Value.cells] using hcs
  exact ⟨none,0,0,[],e,by omega,fun _ =>rfl,by simp,Recs.nil _ _ _⟩
 ·have hnm:n≤m:=by rw [hm];simp;exact hl
  have e:Value.slice A0 n0 c0=.slice (some ad) n c:=by simpa [Value.cells] using hcs
  have hall:∀ i,i<n→∃ x:Rw,(((Fits x.r x.l∧x.n≤maxLen∧Nums x.r x.l)∧(zAD W W.heap.size 3 x.A x.n (dps x.l)∧(x.A=none→x.c=0))))∧∀ k u,x.cells[k]? = some u→W.cell? (ad.add (i * 7+k))=some u:=by
   intro i hin
   obtain ⟨cs,hcell,htr⟩:=hi i (by omega)
   rw [zIt] at hcell
   obtain ⟨_,_,hat⟩:=World.cells?_some hcell
   obtain ⟨r,A,n',c',l,rfl,h2,h3,h4,h5⟩:=zEf htr
   refine ⟨⟨r,A,n',c',l⟩,⟨⟨h4,h2,zEh htr h5⟩,h5,h3⟩,fun k u hu =>?_⟩
   have hk:k<7:=(List.getElem?_eq_some_iff.1 hu).1
   have h:=hat k (by omega)
   rw [zCL] at h
   rw [h]
   exact hu
  obtain ⟨xs,h1,h2,h3⟩:=zGm W ad _ n hall
  refine ⟨some ad,n,c,xs,e,by omega,fun h =>(by cases h),fun x hx =>(h2 x hx).1,⟨by rw [zCh,h1],fun hn =>⟨ad,rfl,?_,fun j u hu =>?_⟩⟩,fun x hx =>(h2 x hx).2⟩
  ·obtain ⟨x,_,h4⟩:=hall 0 hn
   have:=zHm (h4 0 _ rfl)
   rwa [zAQ] at this
  ·obtain ⟨x,g1,g2⟩:=zGr xs j u hu
   have:=h3 _ x g1 _ u g2
   rwa [show j / 7 * 7+j % 7=j by omega] at this
def zAH (ver:Int):List (List UInt8)→List Rw→List (List UInt8)
 | _,[] =>[]
 | tl,x :: xs =>payL ver tl x.r x.l++zAH ver (tabT ver tl x.r x.l) xs
def zAV (ver:Int) (tl:List (List UInt8)) (xs:List Rw):List (List UInt8):=xs.foldl (fun t x =>tabT ver t x.r x.l) tl
theorem zEi (ver:Int) (tl:List (List UInt8)) (xs:List Rw) (x:Rw):zAV ver tl (xs++[x])=tabT ver (zAV ver tl xs) x.r x.l:=by
 unfold zAV
 rw [List.foldl_append]
 rfl
theorem zCg (ver:Int):∀ (tl:List (List UInt8)) (xs ys:List Rw),zAH ver tl (xs++ys)=zAH ver tl xs++zAH ver (zAV ver tl xs) ys
 | tl,[],ys =>rfl
 | tl,x :: xs,ys =>by
  show payL ver tl x.r x.l++zAH ver _ (xs++ys)=(payL ver tl x.r x.l++zAH ver _ xs)++_
  rw [zCg ver _ xs ys,List.append_assoc]
  rfl
theorem zDg (ver:Int) (tl:List (List UInt8)) (xs:List Rw) (x:Rw):zAH ver tl (xs++[x])=zAH ver tl xs++payL ver (zAV ver tl xs) x.r x.l:=by
 rw [zCg]
 show _++(payL ver _ x.r x.l++[])=_
 rw [List.append_nil]
theorem zIa {ver:Int} {tl:List (List UInt8)} {xs:List Rw} {i:Nat} {x:Rw} (h:xs[i]? = some x):zAH ver tl xs=zAH ver tl (xs.take i)++(payL ver (zAV ver tl (xs.take i)) x.r x.l++zAH ver (zAV ver tl (xs.take (i+1))) (xs.drop (i+1))):=by
 obtain ⟨hlt,hx⟩:=List.getElem?_eq_some_iff.1 h
 have h1:xs=xs.take (i+1)++xs.drop (i+1):=(List.take_append_drop _ _).symm
 have h2:xs.take (i+1)=xs.take i++[x]:=by rw [List.take_add_one,h];rfl
 have h3:zAH ver tl xs=zAH ver tl (xs.take (i+1))++zAH ver (zAV ver tl (xs.take (i+1))) (xs.drop (i+1)):=by
  rw [← zCg,← h1]
 rw [h3]
 conv =>lhs;lhs;rw [h2,zDg]
 rw [List.append_assoc]
theorem zEe {ver:Int} {tl:List (List UInt8)} {xs:List Rw} {i:Nat} {x:Rw} (h:xs[i]? = some x):(zAH ver tl (xs.take (i+1))).length=(zAH ver tl (xs.take i)).length+(payL ver (zAV ver tl (xs.take i)) x.r x.l).length∧zAV ver tl (xs.take (i+1))=tabT ver (zAV ver tl (xs.take i)) x.r x.l:=by
 have h2:xs.take (i+1)=xs.take i++[x]:=by rw [List.take_add_one,h];rfl
 rw [h2,zDg,zEi,List.length_append]
 exact ⟨rfl,rfl⟩
theorem zFR {ver:Int}:∀ (xs:List Rw) (tl:List (List UInt8)),(∀ x ∈ xs,MayP ver x.r x.l)→(zAV ver tl xs).length≤tl.length+18 * xs.length
 | [],tl,_ =>by unfold zAV;simp
 | x :: xs,tl,h =>by
  have h1:=zFR xs (tabT ver tl x.r x.l) (fun y hy =>h y (by simp [hy]))
  have h2:=zCs (tl:=tl) (h x (by simp))
  show (zAV ver (tabT ver tl x.r x.l) xs).length≤_
  rw [List.length_cons]
  omega
theorem zFJ {ver:Int}:∀ (xs:List Rw) (tl:List (List UInt8)),(∀ x ∈ xs,MayP ver x.r x.l)→(zAH ver tl xs).length≤19 * xs.length
 | [],tl,_ =>by simp [zAH]
 | x :: xs,tl,h =>by
  have h1:=zFJ xs (tabT ver tl x.r x.l) (fun y hy =>h y (by simp [hy]))
  have h2:=zCr (tl:=tl) (h x (by simp))
  show (payL ver tl x.r x.l++zAH ver _ xs).length≤_
  rw [List.length_append,List.length_cons]
  omega
open Classical in
noncomputable def zDu (ver:Int) (xs:List Rw):List Rw:=xs.filter (fun x =>decide (MayP ver x.r x.l))
structure FS (w0 w:World) (S U:Nat→Prop) (bt bu N:Nat) (tl:List (List UInt8)) (va:Value) (ps:List (List UInt8)) (vs:List Value) (vb:Value) (gs:List Rw):Prop where
 below:Below w0.heap.size w0 w
 ht:Tab w S bt N tl
 hu:Tab w U bu 0 []
 lt:∀ k,S k∨U k→k<w.heap.size∧w0.heap.size≤k
 dis:∀ k,S k→¬ U k
 rows:zBM w w0.heap.size (fun k =>S k∨U k) va ps vs
 good:w.ownsRow w0.heap.size 41 7 vb gs.length (rws gs)
 gok:∀ g,vb.ownBlock=some g→¬ (S g∨U g)
section
variable {w0 w w':World} {S S' U:Nat→Prop} {bt bu N N':Nat} {tl tl':List (List UInt8)} {va:Value} {ps:List (List UInt8)} {vs:List Value} {vb:Value} {gs:List Rw}
theorem FS.new (h:FS w0 w S U bt bu N tl va ps vs vb gs) (hb:Below w.heap.size w w'):FS w0 w' S U bt bu N tl va ps vs vb gs where
 below:=h.below.trans (hb.mono h.below.size)
 ht:=h.ht.keep fun k _ hk =>hb.block k hk
 hu:=h.hu.keep fun k _ hk =>hb.block k hk
 lt:=fun k hk =>⟨Nat.lt_of_lt_of_le (h.lt k hk).1 hb.size,(h.lt k hk).2⟩
 dis:=h.dis
 rows:=h.rows.below hb
 good:=zAK h.good hb
 gok:=h.gok
theorem FS.put (h:FS w0 w S U bt bu N tl va ps vs vb gs) (ht':Tab w' S' bt N' tl') (hs':∀ k,S' k→k<w'.heap.size∧(S k∨w.heap.size≤k)) (htu:Turn S w w'):FS w0 w' S' U bt bu N' tl' va ps vs vb gs where
 below:=h.below.trans (htu.below (fun k hk =>(h.lt k (.inl hk)).2) h.below.size)
 ht:=ht'
 hu:=h.hu.turn htu fun k h1 _ h2 =>h.dis k h2 h1
 lt:=fun k hk =>by
  rcases hk with hk | hk
  ·refine ⟨(hs' k hk).1,?_⟩
   rcases (hs' k hk).2 with h1 | h1
   ·exact (h.lt k (.inl h1)).2
   ·have:=h.below.size;omega
  ·exact ⟨Nat.lt_of_lt_of_le (h.lt k (.inr hk)).1 htu.2.2.2.1,(h.lt k (.inr hk)).2⟩
 dis:=fun k h1 h2 =>by
  rcases (hs' k h1).2 with h3 | h3
  ·exact h.dis k h3 h2
  ·have:=(h.lt k (.inr h2)).1;omega
 rows:=by
  refine (h.rows.set (S2:=fun k =>S k∨S' k∨U k) (fun k hk h1 =>?_)).turn htu (fun k _ h1 =>.inl h1) |>.set (fun k _ h1 =>.inr h1)
  rcases h1 with h1 | h1 | h1
  ·exact .inl h1
  ·rcases (hs' k h1).2 with h2 | h2
   ·exact .inl h2
   ·omega
  ·exact .inr h1
 good:=zAR h.good fun g hg =>htu.2.2.2.2 g (zAP h.good g hg) fun h1 =>h.gok g hg (.inl h1)
 gok:=fun g hg h1 =>by
  rcases h1 with h1 | h1
  ·rcases (hs' g h1).2 with h2 | h2
   ·exact h.gok g hg (.inl h2)
   ·have:=zAP h.good g hg;omega
  ·exact h.gok g hg (.inr h1)
theorem zKg {base b n:Nat} {v:Value} {ys:List Value} (h:zBM w base S va ps vs) (ho:w.ownsRow b 41 7 v n ys) (hg:w.grownBy w' v.ownBlock):zBM w' base S va ps vs:=by
 obtain ⟨h1,h2,h3,h4⟩:=h
 refine ⟨zBL h1 (zBE ho h1 (by decide)) hg,h2,h3,fun i p hp =>?_⟩
 obtain ⟨u,h5,h6,h7⟩:=h4 i p hp
 exact ⟨u,h5,zBL h6 (zBE ho h6 (by decide)) hg,h7⟩
theorem zNu {base b:Nat} {vq v':Value} {qs:List (List UInt8)} {us:List Value} (hb:base≤b) (h:zBM w base S va ps vs) (hq:zBM w b S vq qs us)
  (ho:w'.ownsRow base 59 1 v' (ps.length+qs.length) (vs++us)) (hg:w.grownBy w' va.ownBlock) (hv:v'.ownBlock=va.ownBlock∨v'.ownBlock=some w.heap.size) (hn:¬ S w.heap.size):zBM w' base S v' (ps++qs) (vs++us):=by
 obtain ⟨h1,h2,h3,h4⟩:=h
 obtain ⟨k1,k2,k3,k4⟩:=hq
 refine ⟨by rw [List.length_append];exact ho,fun g hg' =>?_,by simp [h3,k3],fun i p hp =>?_⟩
 ·rcases hv with e | e
  ·exact h2 g (e▸hg')
  ·rw [e] at hg'
   obtain rfl:w.heap.size=g:=by simpa using hg'
   exact hn
 ·rcases Nat.lt_or_ge i ps.length with hlt | hge
  ·rw [List.getElem?_append_left hlt] at hp
   obtain ⟨u,h5,h6,h7⟩:=h4 i p hp
   exact ⟨u,by rw [List.getElem?_append_left (by rw [h3];exact hlt)];exact h5,zBL h6 (zBE h1 h6 (by decide)) hg,h7⟩
  ·rw [List.getElem?_append_right hge] at hp
   obtain ⟨u,h5,h6,h7⟩:=k4 _ p hp
   exact ⟨u,by rw [List.getElem?_append_right (by rw [h3];exact hge),h3];exact h5,zAT (zBL h6 (zBE h1 h6 (by decide)) hg) hb,h7⟩
theorem zEb {b M:Nat} {l:List (List UInt8)} {T:Nat→Prop} {row:Option Nat} (h:Tab w T b M l) (hg:w.grownBy w' row) (hn:∀ g,row=some g→¬ T g):Tab w' T b M l :=
 h.keep fun k hk hlt =>hg.block k hlt (fun e =>hn k e.symm hk)
theorem FS.all {b:Nat} {vq v':Value} {qs:List (List UInt8)} {us:List Value} (h:FS w0 w S U bt bu N tl va ps vs vb gs) (hb:w0.heap.size≤b) (hq:zBM w b (fun k =>S k∨U k) vq qs us)
  (ho:w'.ownsRow w0.heap.size 59 1 v' (ps.length+qs.length) (vs++us)) (hg:w.grownBy w' va.ownBlock) (hv:v'.ownBlock=va.ownBlock∨v'.ownBlock=some w.heap.size):FS w0 w' S U bt bu N tl v' (ps++qs) (vs++us) vb gs where
 below:=h.below.grown hg h.below.size (zAG h.rows.1)
 ht:=zEb h.ht hg fun g e h1 =>h.rows.2.1 g e (.inl h1)
 hu:=zEb h.hu hg fun g e h1 =>h.rows.2.1 g e (.inr h1)
 lt:=fun k hk =>⟨Nat.lt_of_lt_of_le (h.lt k hk).1 hg.size,(h.lt k hk).2⟩
 dis:=h.dis
 rows:=zNu hb h.rows hq ho hg hv (fun h1 =>by have:=(h.lt _ h1).1;omega)
 good:=zBL h.good (zBE h.rows.1 h.good (by decide)) hg
 gok:=h.gok
theorem FS.one {v':Value} {x:Rw} (h:FS w0 w S U bt bu N tl va ps vs vb gs)
  (ho:w'.ownsRow w0.heap.size 41 7 v' (gs.length+1) (rws gs++rws [x])) (hg:w.grownBy w' vb.ownBlock) (hv:v'.ownBlock=vb.ownBlock∨v'.ownBlock=some w.heap.size):FS w0 w' S U bt bu N tl va ps vs v' (gs++[x]) where
 below:=h.below.grown hg h.below.size (zAG h.good)
 ht:=zEb h.ht hg fun g e h1 =>h.gok g e (.inl h1)
 hu:=zEb h.hu hg fun g e h1 =>h.gok g e (.inr h1)
 lt:=fun k hk =>⟨Nat.lt_of_lt_of_le (h.lt k hk).1 hg.size,(h.lt k hk).2⟩
 dis:=h.dis
 rows:=zKg h.rows h.good hg
 good:=by rw [zCH,List.length_append];exact ho
 gok:=fun g hg' h1 =>by
  rcases hv with e | e
  ·exact h.gok g (e▸hg') h1
  ·rw [e] at hg'
   obtain rfl:w.heap.size=g:=by simpa using hg'
   have:=(h.lt _ h1).1;omega
end
theorem FS.next {w0 w:World} {S U:Nat→Prop} {bt bu:Nat} {ver:Int} {xs:List Rw} {x:Rw} {i:Nat} {va:Value} {vs:List Value} {vb:Value} (hg:zDu ver (xs.take (i+1))=zDu ver (xs.take i)++[x])
  (h:FS w0 w S U bt bu (18 * i+18) (tabT ver (zAV ver [] (zDu ver (xs.take i))) x.r x.l) va (zAH ver [] (zDu ver (xs.take i))++payL ver (zAV ver [] (zDu ver (xs.take i))) x.r x.l) vs vb (zDu ver (xs.take i)++[x])) :
  FS w0 w S U bt bu (18 * (i+1)) (zAV ver [] (zDu ver (xs.take (i+1)))) va (zAH ver [] (zDu ver (xs.take (i+1)))) vs vb (zDu ver (xs.take (i+1))):=by
 rw [hg,zEi,zDg]
 exact h
structure SS (w0 w:World) (S U:Nat→Prop) (bt bu N M:Nat) (tl ul:List (List UInt8)) (A:Option Addr) (na ca:Nat) (ps:List (List UInt8)) (vb:Value) (gs:List Rw) (B:Nat):Prop where
 below:Below w0.heap.size w0 w
 ht:Tab w S bt N tl
 hu:Tab w U bu M ul
 lt:∀ k,S k∨U k→k<w.heap.size∧w0.heap.size≤k
 dis:∀ k,S k→¬ U k
 all:PlsT w B U A na ca ps
 hB:B≤w.heap.size
 good:w.ownsRow w0.heap.size 41 7 vb gs.length (rws gs)
 gok:∀ g,vb.ownBlock=some g→¬ U g
section
variable {w0 w w':World} {S U U':Nat→Prop} {bt bu N M M':Nat} {tl ul ul':List (List UInt8)} {A:Option Addr} {na ca B:Nat} {ps:List (List UInt8)} {vb:Value} {gs:List Rw}
theorem SS.new (h:SS w0 w S U bt bu N M tl ul A na ca ps vb gs B) (hb:Below w.heap.size w w'):SS w0 w' S U bt bu N M tl ul A na ca ps vb gs B where
 below:=h.below.trans (hb.mono h.below.size)
 ht:=h.ht.keep fun k _ hk =>hb.block k hk
 hu:=h.hu.keep fun k _ hk =>hb.block k hk
 lt:=fun k hk =>⟨Nat.lt_of_lt_of_le (h.lt k hk).1 hb.size,(h.lt k hk).2⟩
 dis:=h.dis
 all:=h.all.turn (Turn.of_below hb) h.hB
 hB:=Nat.le_trans h.hB hb.size
 good:=zAK h.good hb
 gok:=h.gok
end
theorem zGj {w:World} {base n c size:Nat} {e:TypeId} {A:Option Addr} {xs:List Value} (h:w.ownsRow base e size (.slice A n c) n xs):n≤c:=by
 rcases h.2 with ⟨h5,h6⟩ | ⟨g,cap,cur,h5,_,_,h6,_⟩
 ·injection h5 with _ h7 h8;omega
 ·injection h5 with _ h7 h8;omega
theorem PlsT.of_rows {w:World} {base:Nat} {S U:Nat→Prop} {A:Option Addr} {c:Nat} {ps:List (List UInt8)} {vs:List Value} (h:zBM w base (fun k =>S k∨U k) (.slice A ps.length c) ps vs):PlsT w w.heap.size U A ps.length c ps:=by
 obtain ⟨h1,h2,h3,h4⟩:=h
 refine ⟨zGj h1,rfl,vs,zAD.of_own h1,fun ad e _ h5 =>?_,fun i p hp =>?_⟩
 ·subst e
  exact h2 ad.block rfl (.inr h5)
 ·obtain ⟨v,h5,h6,h7⟩:=h4 i p hp
  obtain ⟨A',c',rfl,_⟩:=zAL h6
  refine ⟨A',c',h5,zGj h6,zAD.of_own h6,fun ad e _ h8 =>?_⟩
  subst e
  exact h7 ad.block rfl (.inr h8)
def zHh (ver:Int):Int:=if 1≤ver∧ver≤3 then 1 else 11
theorem zLG (bt:Nat) (ver:Int) (r:Rc) (A:Option Addr) (n c:Nat) (l:List Dp) (hm:¬ MayP ver r l) (hn:n≤1000) (hfit:Fits r l) (w:World) (hr:zAD w w.heap.size 3 A n (dps l)) :
  Calls Tryz.prog 109 #[.int .i64 ver,.pointer (some ⟨bt,0,none⟩),.agg #[.int .i64 r.kind,.string (tx r.target),.int .u64 r.rule,.slice A n c,.int .u64 r.out,.int .u64 r.time,.string (tx r.tag)]] w fun e w' =>e=.returned (.tuple #[.slice none 0 0,.int .i64 (zHh ver)])∧Below w.heap.size w w':=by
 unfold zHh
 by_cases hv:1≤ver∧ver≤3
 ·rw [if_pos hv]
  refine zRO ver hv bt n c r A w (yh fun W hb =>?_)
  refine (zHu ver r A n c l (by omega) hfit W ((hr.below hb).more hb.size)).mono fun e w' ⟨⟨q,h1,h2⟩,h3⟩ =>⟨?_,h3⟩
  cases q with
  | false =>exact h2
  | true =>exact absurd (h1.1 rfl) hm
 ·rw [if_neg hv]
  exact zRQ ver hv (some ⟨bt,0,none⟩) n c r A w
def tblA (tl:List (List UInt8)) (qs:List (List UInt8)) (j:Nat):List (List UInt8):=((qs.take j).map List.tail).foldl tput tl
theorem zKD (tl qs:List (List UInt8)) (j:Nat):(tblA tl qs j).length≤tl.length+j:=by
 unfold tblA
 have h1:=zBc ((qs.take j).map List.tail) tl
 rw [List.length_map,List.length_take] at h1
 omega
theorem zIl:∀ (qs:List (List UInt8)) (j:Nat),j<zAf qs→∃ t,qs[j]? = some (0 :: t)
 | [],j,h =>by simp [zAf] at h
 | p :: qs,j,h =>by
  unfold zAf at h
  by_cases hp:zBh p=true
  ·rw [if_pos hp] at h
   cases j with
   | zero =>
    match p,hp with
    | [],hp =>simp [zBh] at hp
    | x :: p,hp =>
     have hx:x=0:=by simpa [zBh] using hp
     exact ⟨p,by rw [hx];rfl⟩
   | succ j =>
    obtain ⟨t,ht⟩:=zIl qs j (by omega)
    exact ⟨t,by simpa using ht⟩
  ·rw [if_neg hp] at h;omega
theorem zHa:∀ (qs:List (List UInt8)) (p:List UInt8),qs[zAf qs]? = some p→zBh p=false
 | [],p,h =>by simp at h
 | q :: qs,p,h =>by
  unfold zAf at h
  by_cases hq:zBh q=true
  ·rw [if_pos hq] at h
   exact zHa qs p (by simpa using h)
  ·rw [if_neg hq] at h
   have:q=p:=by simpa using h
   rw [← this];simpa using hq
end Go.Proofs.YtekchkfjgofnkaaGreatDoor
