/- Texts of one proof. -/
import Derived.Test.YtekchkfjgofnkaaGreatDoorMy33
set_option maxRecDepth 100000
set_option maxHeartbeats 8000000
namespace Go.Proofs.YtekchkfjgofnkaaGreatDoor
open Go.RowKit Go.Maps Go.ChangeMaps Go.WideMaps Go.Sort
def zDE (r:Bool) (x y:List UInt8→Option Fl):List UInt8→Option Fl:=match r with | true =>x | false =>y
structure zGB (w w':World) (base p b N N':Nat) (down:Bool) (f g:Bool×Int) (fl':List UInt8→Option Fl) (F F':List UInt8→Option Value):Prop where
 box:zAM w' p b down f g
 files:zAZ w' base b N' fl' F'
 room:N'≤N+2
 turn:Turn (zAU p b F) w w'
 sub:∀ k,zAU p b F' k→zAU p b F k∨w.heap.size≤k
theorem zBP {w w':World} {base p b N:Nat} {down:Bool} {f g:Bool×Int} {fl:List UInt8→Option Fl} {F:List UInt8→Option Value} (h:zAZ w base b N fl F) (hx:zAM w p b down f g) (hg:w.grownBy w' (some p)):zAZ w' base b N fl F:=by
 obtain ⟨es,ck,hb⟩:=h.1.heap
 obtain ⟨h1,h2,h3,h4⟩:=h
 refine ⟨h1.kept hg (fun e =>?_),h2,fun u x hu =>?_,h4⟩
 ·rw [Option.some.inj e] at hb
  rw [show w.heap[p]? = some _ from hx] at hb
  cases hb
 ·obtain ⟨A,c,e,hA,ho⟩:=h3 u x hu
  exact ⟨A,c,e,hA,ho.kept hg (.inr (zAa ho hx (by decide)))⟩
theorem zNm {w w':World} {B n p b:Nat} {A:Option Addr} {bs:List UInt8} {d:Bool} {f g:Bool×Int} (h:zAD w B 1 A n (bs.map bv)) (hx:zAM w p b d f g) (hg:w.grownBy w' (some p)) (hB:B≤w.heap.size):zAD w' B 1 A n (bs.map bv):=by
 refine ⟨h.1,fun hn =>?_⟩
 obtain ⟨ad,e,hb,hc⟩:=h.2 hn
 have hl:0<bs.length:=by have:=h.1;simp at this;omega
 have hne:ad.block≠p:=fun e2 =>by
  have h0:=hc 0 (bv bs[0]) (by rw [List.getElem?_map,List.getElem?_eq_getElem hl];rfl)
  have ha:ad.add 0=ad:=by unfold Addr.add;simp
  rw [ha] at h0
  unfold zAM at hx
  rw [← e2] at hx
  unfold World.cell? at h0
  rw [hx] at h0
  obtain ⟨f1,f2⟩:=f
  obtain ⟨g1,g2⟩:=g
  revert h0
  generalize ad.off=o
  match o with
  | 0 =>simp [bv]
  | 1 =>simp [bv]
  | 2 =>simp [bv]
  | 3 =>simp [bv]
  | 4 =>simp [bv]
  | 5 =>simp [bv]
  | o+6 =>simp
 exact ⟨ad,e,hb,fun j u hu =>(World.cell?_of_block (by rw [zAQ];exact hg.block ad.block (by omega) (fun e2 =>hne (Option.some.inj e2)))).trans (hc j u hu)⟩
theorem zLW (p b N base B:Nat) (f g:Bool×Int) (hfi:zAN f) (hgi:zAN g) (fl:List UInt8→Option Fl) (F:List UInt8→Option Value) (s:List UInt8) (hs:s.length≤maxLen) (Ab:Option Addr) (nb cb:Nat) (body:List UInt8) (hAb:Ab=none→cb=0) (hN:N<1000000) (hbl:nb≤50000000) (hxl:(zAi fl s).body.length≤1000000000) (w:World) (hbase:base≤w.heap.size)
  (hx:zAM w p b false f g) (hf:zAZ w base b N fl F) (hB:B≤w.heap.size) (hr:zAD w B 1 Ab nb (body.map bv)) :
  Calls Tryz.prog 73 #[.pointer (some ⟨p,0,none⟩),.string (tx s),.slice Ab nb cb] w fun e w' =>e=.returned (.int .i64 (zAx f g)) ∧
   ∃ N' F',zGB w w' base p b N N' (zAW g) (zAI f) (zAI g) (zDE (zAs f g true) (zAb fl s (some ⟨(zAi fl s).body++body,(zAi fl s).safe⟩)) fl) F F':=by
 have hpl:=hx.lt
 have HA1:Hid (Below w.heap.size w (w.alloc (.cells #[.pointer (some ⟨p,0,none⟩)] 27))):=(Below.refl _ _).alloc (Nat.le_refl _) _
 have HA2:Hid (Below w.heap.size w ((w.alloc (.cells #[.pointer (some ⟨p,0,none⟩)] 27)).alloc (.cells #[.string (tx s)] 9))):=HA1.out.alloc HA1.out.size _
 have HA3:Hid (Below w.heap.size w (((w.alloc (.cells #[.pointer (some ⟨p,0,none⟩)] 27)).alloc (.cells #[.string (tx s)] 9)).alloc (.cells #[.slice Ab nb cb] 59))):=HA2.out.alloc HA2.out.size _
 have h1:=zAE w (.cells #[.pointer (some ⟨p,0,none⟩)] 27)
 have h2:=zAE (w.alloc (.cells #[.pointer (some ⟨p,0,none⟩)] 27)) (.cells #[.string (tx s)] 9)
 have h3:=zAE ((w.alloc (.cells #[.pointer (some ⟨p,0,none⟩)] 27)).alloc (.cells #[.string (tx s)] 9)) (.cells #[.slice Ab nb cb] 59)
 have z1:(w.alloc (.cells #[.pointer (some ⟨p,0,none⟩)] 27)).heap.size=w.heap.size+1:=by simp
 have z2:((w.alloc (.cells #[.pointer (some ⟨p,0,none⟩)] 27)).alloc (.cells #[.string (tx s)] 9)).heap.size=w.heap.size+2:=by simp
 rw [z1] at h2
 rw [z2] at h3
 have e2:(((w.alloc (.cells #[.pointer (some ⟨p,0,none⟩)] 27)).alloc (.cells #[.string (tx s)] 9)).alloc (.cells #[.slice Ab nb cb] 59)).heap[w.heap.size+1]? = some (.cells #[.string (tx s)] 9):=(Below.heap_alloc _ _ _ (by rw [z2];omega)).trans h2
 have e1:(((w.alloc (.cells #[.pointer (some ⟨p,0,none⟩)] 27)).alloc (.cells #[.string (tx s)] 9)).alloc (.cells #[.slice Ab nb cb] 59)).heap[w.heap.size]? = some (.cells #[.pointer (some ⟨p,0,none⟩)] 27):=(Below.heap_alloc _ _ _ (by rw [z2];omega)).trans ((Below.heap_alloc _ _ _ (by rw [z1];omega)).trans h1)
 obtain ⟨w1,hw1⟩:∃ x,x=((w.alloc (.cells #[.pointer (some ⟨p,0,none⟩)] 27)).alloc (.cells #[.string (tx s)] 9)).alloc (.cells #[.slice Ab nb cb] 59):=⟨_,rfl⟩
 rw [← hw1] at HA3 h3 e1 e2
 have hx1:=hx.below HA3.out
 have hf1:=hf.below HA3.out
 have hr1:=hr.below (HA3.out.mono (by omega))
 have HACT:=yh (zEl p b false f g hfi hgi true 96 (enters_of Tryz.func96 (by kernel_rfl) rfl) #[.pointer (some ⟨w.heap.size,0,none⟩),.pointer (some ⟨w.heap.size+1,0,none⟩),.pointer (some ⟨w.heap.size+2,0,none⟩)] w1 hx1
  (fun W W' =>(∃ F',zAZ W' base b (N+1) (zAb fl s (some ⟨(zAi fl s).body++body,(zAi fl s).safe⟩)) F'∧∀ k,zAU p b F' k→zAU p b F k∨W.heap.size≤k)∧W'.heap[p]? = W.heap[p]?∧Turn (zAU p b F) W W')
  (fun d W hW hg =>by
   have hfW:=zBP hf1 hx1 hg
   refine (zMa p b N base w.heap.size (w.heap.size+1) (w.heap.size+2) B d _ _ fl F s hs Ab nb cb body hAb hN hbl hxl W (by have:=HA3.out.size;have:=hg.size;omega) hW hfW ?_ ?_ ?_ (by have:=HA3.out.size;have:=hg.size;omega) (zNm hr1 hx1 hg (by have:=HA3.out.size;omega))).mono ?_
   ·exact (hg.block _ (zAJ e1) (fun e =>by have:=Option.some.inj e;omega)).trans e1
   ·exact (hg.block _ (zAJ e2) (fun e =>by have:=Option.some.inj e;omega)).trans e2
   ·exact (hg.block _ (zAJ h3) (fun e =>by have:=Option.some.inj e;omega)).trans h3
   ·rintro e W' ⟨he,F',hF',hx',ht',hsub⟩
    exact ⟨he,⟨F',hF',hsub⟩,hx'.trans hW.symm,ht'⟩))
 have q1:=zAA (i:=0) e1 rfl
 have q2:=zAA (i:=1) hx1 rfl
 rw [hw1] at q1 q2
 have HX1:=yh hx1
 have HF1:=yh hf1
 clear hx hf hr hx1 hf1 hr1 h1 h2 h3 e1 e2 z1 z2
 go_enter Tryz.func73,Tryz.ntmps73
 have HACT2:=HACT
 rw [hw1] at HACT2
 have HW1:=yh hw1
 clear hw1 HACT
 go_wp2_with fail
 refine HACT2.out.mono ?_
 rintro e w5 ⟨W,hbx,hg,rfl,hrun,hno⟩
 rw [← HW1.out] at hg
 have HBX:=yh hbx
 have HG:=yh hg
 have HRUN:=yh hrun
 have HNO:=yh hno
 clear hbx hg hrun hno
 go_wp2
 go_ret
 refine ⟨rfl,?_⟩
 have htw:Turn (zAU p b F) w W:=(Turn.of_below HA3.out).grown HG.out (fun i hi _ =>.inl (Option.some.inj hi).symm)
 have hbx2:zAM W p b (zAW g) (zAI f) (zAI g):=by have h:=HBX.out;rw [Bool.false_or] at h;exact h
 cases hru:zAs f g true with
 | true =>
  obtain ⟨⟨F',hF',hsub⟩,hp',ht'⟩:=HRUN.out hru
  refine ⟨N+1,F',?_⟩
  refine ⟨hp'.trans hbx2,hF',by omega,htw.trans ht' (fun i _ h =>h),fun k hk =>?_⟩
  rcases hsub k hk with h | h
  ·exact .inl h
  ·exact .inr (by have:=HA3.out.size;have:=HG.out.size;omega)
 | false =>
  have e:=HNO.out hru
  subst e
  refine ⟨N,F,?_⟩
  exact ⟨hbx2,zBP HF1.out HX1.out HG.out,by omega,htw,fun k hk =>.inl hk⟩
theorem zMT (p b:Nat) (f g:Bool×Int) (s:List UInt8) (z:Int) (w:World) (hx:zAM w p b true f g) :
  Calls Tryz.prog 48 #[.pointer (some ⟨p,0,none⟩),.string (tx s),.int .i64 z] w fun e w' =>e=.returned (.int .i64 7)∧Below w.heap.size w w':=by
 have z0:(w.alloc (.cells #[.pointer (some ⟨p,0,none⟩)] 27)).heap.size=w.heap.size+1:=by simp only [World.size_alloc]
 have z1:((w.alloc (.cells #[.pointer (some ⟨p,0,none⟩)] 27)).alloc (.cells #[.string (tx s)] 9)).heap.size=w.heap.size+2:=by simp only [World.size_alloc,Nat.add_assoc,Nat.reduceAdd]
 have z2:(((w.alloc (.cells #[.pointer (some ⟨p,0,none⟩)] 27)).alloc (.cells #[.string (tx s)] 9)).alloc (.cells #[.int .i64 z] 3)).heap.size=w.heap.size+3:=by simp only [World.size_alloc,Nat.add_assoc,Nat.reduceAdd]
 have HA:Hid (Below w.heap.size w (((w.alloc (.cells #[.pointer (some ⟨p,0,none⟩)] 27)).alloc (.cells #[.string (tx s)] 9)).alloc (.cells #[.int .i64 z] 3))):=(((Below.refl _ _).alloc (by first | exact Nat.le_refl _ | (rw [z0];omega)) _).alloc (by first | exact Nat.le_refl _ | (rw [z0];omega)) _).alloc (by first | exact Nat.le_refl _ | (rw [z1];omega)) _
 have e0:=zAE w (.cells #[.pointer (some ⟨p,0,none⟩)] 27)
 have e0:=(Below.heap_alloc (w.alloc (.cells #[.pointer (some ⟨p,0,none⟩)] 27)) (.cells #[.string (tx s)] 9) _ (by rw [z0];omega)).trans e0
 have e0:=(Below.heap_alloc ((w.alloc (.cells #[.pointer (some ⟨p,0,none⟩)] 27)).alloc (.cells #[.string (tx s)] 9)) (.cells #[.int .i64 z] 3) _ (by rw [z1];omega)).trans e0
 have e1:=zAE (w.alloc (.cells #[.pointer (some ⟨p,0,none⟩)] 27)) (.cells #[.string (tx s)] 9)
 rw [z0] at e1
 have e1:=(Below.heap_alloc ((w.alloc (.cells #[.pointer (some ⟨p,0,none⟩)] 27)).alloc (.cells #[.string (tx s)] 9)) (.cells #[.int .i64 z] 3) _ (by rw [z1];omega)).trans e1
 have e2:=zAE ((w.alloc (.cells #[.pointer (some ⟨p,0,none⟩)] 27)).alloc (.cells #[.string (tx s)] 9)) (.cells #[.int .i64 z] 3)
 rw [z1] at e2
 obtain ⟨w1,hw1⟩:∃ x,x=(((w.alloc (.cells #[.pointer (some ⟨p,0,none⟩)] 27)).alloc (.cells #[.string (tx s)] 9)).alloc (.cells #[.int .i64 z] 3)):=⟨_,rfl⟩
 rw [← hw1] at HA e0 e1 e2
 have hx1:=hx.below HA.out
 have HFD:=yh (zDr p b f g s w1 hx1)
 have q0:=zAA (i:=0) e0 rfl
 have q1:=zAA (i:=0) e1 rfl
 have q2:=zAA (i:=0) e2 rfl
 rw [hw1] at q0 q1 q2
 have HW1:=yh hw1
 rw [hw1] at HFD
 clear hx hx1 e0 e1 e2 z0 z1 z2 hw1
 go_enter Tryz.func48,Tryz.ntmps48
 go_wp2_with fail
 refine HFD.out.mono ?_
 rintro e w2 ⟨rfl,hb2⟩
 rw [← HW1.out] at hb2
 have HB2:=yh (HA.out.trans (hb2.mono HA.out.size))
 clear hb2
 go_wp2
 go_ret
 exact ⟨rfl,HB2.out.alloc HB2.out.size _⟩
theorem zMU (p b N:Nat) (f g:Bool×Int) (s:List UInt8) (hs:s.length≤maxLen) (z:Int) (F:List UInt8→Option Value) (w:World) (hx:zAM w p b false f g) (hm:TMap w b N F) (hF:F s=none) :
  Calls Tryz.prog 48 #[.pointer (some ⟨p,0,none⟩),.string (tx s),.int .i64 z] w fun e w' =>e=.returned (.int .i64 6)∧Below w.heap.size w w':=by
 have z0:(w.alloc (.cells #[.pointer (some ⟨p,0,none⟩)] 27)).heap.size=w.heap.size+1:=by simp only [World.size_alloc]
 have z1:((w.alloc (.cells #[.pointer (some ⟨p,0,none⟩)] 27)).alloc (.cells #[.string (tx s)] 9)).heap.size=w.heap.size+2:=by simp only [World.size_alloc,Nat.add_assoc,Nat.reduceAdd]
 have z2:(((w.alloc (.cells #[.pointer (some ⟨p,0,none⟩)] 27)).alloc (.cells #[.string (tx s)] 9)).alloc (.cells #[.int .i64 z] 3)).heap.size=w.heap.size+3:=by simp only [World.size_alloc,Nat.add_assoc,Nat.reduceAdd]
 have HA:Hid (Below w.heap.size w (((w.alloc (.cells #[.pointer (some ⟨p,0,none⟩)] 27)).alloc (.cells #[.string (tx s)] 9)).alloc (.cells #[.int .i64 z] 3))):=(((Below.refl _ _).alloc (by first | exact Nat.le_refl _ | (rw [z0];omega)) _).alloc (by first | exact Nat.le_refl _ | (rw [z0];omega)) _).alloc (by first | exact Nat.le_refl _ | (rw [z1];omega)) _
 have e0:=zAE w (.cells #[.pointer (some ⟨p,0,none⟩)] 27)
 have e0:=(Below.heap_alloc (w.alloc (.cells #[.pointer (some ⟨p,0,none⟩)] 27)) (.cells #[.string (tx s)] 9) _ (by rw [z0];omega)).trans e0
 have e0:=(Below.heap_alloc ((w.alloc (.cells #[.pointer (some ⟨p,0,none⟩)] 27)).alloc (.cells #[.string (tx s)] 9)) (.cells #[.int .i64 z] 3) _ (by rw [z1];omega)).trans e0
 have e1:=zAE (w.alloc (.cells #[.pointer (some ⟨p,0,none⟩)] 27)) (.cells #[.string (tx s)] 9)
 rw [z0] at e1
 have e1:=(Below.heap_alloc ((w.alloc (.cells #[.pointer (some ⟨p,0,none⟩)] 27)).alloc (.cells #[.string (tx s)] 9)) (.cells #[.int .i64 z] 3) _ (by rw [z1];omega)).trans e1
 have e2:=zAE ((w.alloc (.cells #[.pointer (some ⟨p,0,none⟩)] 27)).alloc (.cells #[.string (tx s)] 9)) (.cells #[.int .i64 z] 3)
 rw [z1] at e2
 obtain ⟨w1,hw1⟩:∃ x,x=(((w.alloc (.cells #[.pointer (some ⟨p,0,none⟩)] 27)).alloc (.cells #[.string (tx s)] 9)).alloc (.cells #[.int .i64 z] 3)):=⟨_,rfl⟩
 rw [← hw1] at HA e0 e1 e2
 have hx1:=hx.below HA.out
 have hm1:=hm.below HA.out
 have HFD:=yh (zDs p b N f g F s hs hF w1 hx1 hm1)
 have q0:=zAA (i:=0) e0 rfl
 have q1:=zAA (i:=0) e1 rfl
 have q2:=zAA (i:=0) e2 rfl
 rw [hw1] at q0 q1 q2
 have HW1:=yh hw1
 rw [hw1] at HFD
 clear hx hx1 hm hm1 e0 e1 e2 z0 z1 z2 hw1
 go_enter Tryz.func48,Tryz.ntmps48
 go_wp2_with fail
 refine HFD.out.mono ?_
 rintro e w2 ⟨rfl,hb2⟩
 rw [← HW1.out] at hb2
 have HB2:=yh (HA.out.trans (hb2.mono HA.out.size))
 clear hb2
 go_wp2
 go_ret
 exact ⟨rfl,HB2.out.alloc HB2.out.size _⟩
theorem zOR (p b N:Nat) (f g:Bool×Int) (A:Option Addr) (n c q:Nat) (s:List UInt8) (hs:s.length≤maxLen) (z:Int) (F:List UInt8→Option Value) (w:World) (hx:zAM w p b false f g) (hm:TMap w b N F) (hF:F s=some (fval A n c q)) (hz:z<0∨(n:Int)<z) :
  Calls Tryz.prog 48 #[.pointer (some ⟨p,0,none⟩),.string (tx s),.int .i64 z] w fun e w' =>e=.returned (.int .i64 1)∧Below w.heap.size w w':=by
 have z0:(w.alloc (.cells #[.pointer (some ⟨p,0,none⟩)] 27)).heap.size=w.heap.size+1:=by simp only [World.size_alloc]
 have z1:((w.alloc (.cells #[.pointer (some ⟨p,0,none⟩)] 27)).alloc (.cells #[.string (tx s)] 9)).heap.size=w.heap.size+2:=by simp only [World.size_alloc,Nat.add_assoc,Nat.reduceAdd]
 have z2:(((w.alloc (.cells #[.pointer (some ⟨p,0,none⟩)] 27)).alloc (.cells #[.string (tx s)] 9)).alloc (.cells #[.int .i64 z] 3)).heap.size=w.heap.size+3:=by simp only [World.size_alloc,Nat.add_assoc,Nat.reduceAdd]
 have HA:Hid (Below w.heap.size w (((w.alloc (.cells #[.pointer (some ⟨p,0,none⟩)] 27)).alloc (.cells #[.string (tx s)] 9)).alloc (.cells #[.int .i64 z] 3))):=(((Below.refl _ _).alloc (by first | exact Nat.le_refl _ | (rw [z0];omega)) _).alloc (by first | exact Nat.le_refl _ | (rw [z0];omega)) _).alloc (by first | exact Nat.le_refl _ | (rw [z1];omega)) _
 have e0:=zAE w (.cells #[.pointer (some ⟨p,0,none⟩)] 27)
 have e0:=(Below.heap_alloc (w.alloc (.cells #[.pointer (some ⟨p,0,none⟩)] 27)) (.cells #[.string (tx s)] 9) _ (by rw [z0];omega)).trans e0
 have e0:=(Below.heap_alloc ((w.alloc (.cells #[.pointer (some ⟨p,0,none⟩)] 27)).alloc (.cells #[.string (tx s)] 9)) (.cells #[.int .i64 z] 3) _ (by rw [z1];omega)).trans e0
 have e1:=zAE (w.alloc (.cells #[.pointer (some ⟨p,0,none⟩)] 27)) (.cells #[.string (tx s)] 9)
 rw [z0] at e1
 have e1:=(Below.heap_alloc ((w.alloc (.cells #[.pointer (some ⟨p,0,none⟩)] 27)).alloc (.cells #[.string (tx s)] 9)) (.cells #[.int .i64 z] 3) _ (by rw [z1];omega)).trans e1
 have e2:=zAE ((w.alloc (.cells #[.pointer (some ⟨p,0,none⟩)] 27)).alloc (.cells #[.string (tx s)] 9)) (.cells #[.int .i64 z] 3)
 rw [z1] at e2
 obtain ⟨w1,hw1⟩:∃ x,x=(((w.alloc (.cells #[.pointer (some ⟨p,0,none⟩)] 27)).alloc (.cells #[.string (tx s)] 9)).alloc (.cells #[.int .i64 z] 3)):=⟨_,rfl⟩
 rw [← hw1] at HA e0 e1 e2
 have hx1:=hx.below HA.out
 have hm1:=hm.below HA.out
 have HFD:=yh (zDG p b N f g F s hs A n c q hF w1 hx1 hm1)
 have q0:=zAA (i:=0) e0 rfl
 have q1:=zAA (i:=0) e1 rfl
 have q2:=zAA (i:=0) e2 rfl
 rw [hw1] at q0 q1 q2
 have HW1:=yh hw1
 rw [hw1] at HFD
 have QZ:Hid (∀ v,Below w1.heap.size w1 v→v.cell? ⟨w.heap.size+2,0,none⟩=some (.int .i64 z)):=fun v hv =>zAA (i:=0) ((hv.block _ (zAJ e2)).trans e2) rfl
 clear hx hx1 hm hm1 e0 e1 e2 z0 z1 z2 hw1
 go_enter Tryz.func48,Tryz.ntmps48
 go_wp2_with fail
 refine HFD.out.mono ?_
 rintro e w2 ⟨rfl,hb2⟩
 rw [← HW1.out] at hb2
 have HB2:=yh (HA.out.trans (hb2.mono HA.out.size))
 have hbox:=zAE w2 (.cells #[.slice A n c,.int .i64 (q:Int)] 85)
 have b0:=zAA (i:=0) hbox rfl
 have hz3:(w2.alloc (.cells #[.slice A n c,.int .i64 (q:Int)] 85)).cell? ⟨w.heap.size+2,0,none⟩=some (.int .i64 z):=QZ.out _ (hb2.alloc hb2.size _)
 clear hbox
 clear hb2
 by_cases hz0:z<0
 ·go_wp2
  go_ret
  exact ⟨rfl,HB2.out.alloc HB2.out.size _⟩
 ·have hz1:z > (n:Int):=by omega
  clear hz
  go_wp2
  go_ret
  exact ⟨rfl,HB2.out.alloc HB2.out.size _⟩
theorem zOQ (p b N base:Nat) (f g:Bool×Int) (hfi:zAN f) (hgi:zAN g) (fl:List UInt8→Option Fl) (F:List UInt8→Option Value) (s:List UInt8) (hs:s.length≤maxLen) (x:Fl) (hfx:fl s=some x) (k:Nat) (hk:k≤x.body.length) (hN:N<1000000) (hxl:x.body.length≤1000000000) (w:World) (hbase:base≤w.heap.size)
  (hx:zAM w p b false f g) (hf:zAZ w base b N fl F) :
  Calls Tryz.prog 48 #[.pointer (some ⟨p,0,none⟩),.string (tx s),.int .i64 (k:Int)] w fun e w' =>e=.returned (.int .i64 (zAx f g)) ∧
   ∃ N' F',zGB w w' base p b N N' (zAW g) (zAI f) (zAI g) (zDE (zAs f g false) (zAb fl s (some ⟨x.body.take k,min x.safe k⟩)) fl) F F':=by
 have hpl:=hx.lt
 obtain ⟨A,c,hF,hA,ho⟩:=hf.2.2.1 s x hfx
 have hcap:x.body.length≤c∧c≤maxLen:=by
  rcases ho.2 with ⟨e,h0⟩ | ⟨g9,cap9,cur9,e,_,_,h1,h2,_⟩
  ·injection e with _ e1 e2
   subst e2
   exact ⟨by omega,by unfold maxLen;omega⟩
  ·injection e with _ _ e2
   subst e2
   exact ⟨h1,h2⟩
 have z0:(w.alloc (.cells #[.pointer (some ⟨p,0,none⟩)] 27)).heap.size=w.heap.size+1:=by simp only [World.size_alloc]
 have z1:((w.alloc (.cells #[.pointer (some ⟨p,0,none⟩)] 27)).alloc (.cells #[.string (tx s)] 9)).heap.size=w.heap.size+2:=by simp only [World.size_alloc,Nat.add_assoc,Nat.reduceAdd]
 have z2:(((w.alloc (.cells #[.pointer (some ⟨p,0,none⟩)] 27)).alloc (.cells #[.string (tx s)] 9)).alloc (.cells #[.int .i64 (k:Int)] 3)).heap.size=w.heap.size+3:=by simp only [World.size_alloc,Nat.add_assoc,Nat.reduceAdd]
 have HA:Hid (Below w.heap.size w (((w.alloc (.cells #[.pointer (some ⟨p,0,none⟩)] 27)).alloc (.cells #[.string (tx s)] 9)).alloc (.cells #[.int .i64 (k:Int)] 3))):=(((Below.refl _ _).alloc (by first | exact Nat.le_refl _ | (rw [z0];omega)) _).alloc (by first | exact Nat.le_refl _ | (rw [z0];omega)) _).alloc (by first | exact Nat.le_refl _ | (rw [z1];omega)) _
 have e0:=zAE w (.cells #[.pointer (some ⟨p,0,none⟩)] 27)
 have e0:=(Below.heap_alloc (w.alloc (.cells #[.pointer (some ⟨p,0,none⟩)] 27)) (.cells #[.string (tx s)] 9) _ (by rw [z0];omega)).trans e0
 have e0:=(Below.heap_alloc ((w.alloc (.cells #[.pointer (some ⟨p,0,none⟩)] 27)).alloc (.cells #[.string (tx s)] 9)) (.cells #[.int .i64 (k:Int)] 3) _ (by rw [z1];omega)).trans e0
 have e1:=zAE (w.alloc (.cells #[.pointer (some ⟨p,0,none⟩)] 27)) (.cells #[.string (tx s)] 9)
 rw [z0] at e1
 have e1:=(Below.heap_alloc ((w.alloc (.cells #[.pointer (some ⟨p,0,none⟩)] 27)).alloc (.cells #[.string (tx s)] 9)) (.cells #[.int .i64 (k:Int)] 3) _ (by rw [z1];omega)).trans e1
 have e2:=zAE ((w.alloc (.cells #[.pointer (some ⟨p,0,none⟩)] 27)).alloc (.cells #[.string (tx s)] 9)) (.cells #[.int .i64 (k:Int)] 3)
 rw [z1] at e2
 obtain ⟨w1,hw1⟩:∃ x,x=(((w.alloc (.cells #[.pointer (some ⟨p,0,none⟩)] 27)).alloc (.cells #[.string (tx s)] 9)).alloc (.cells #[.int .i64 (k:Int)] 3)):=⟨_,rfl⟩
 rw [← hw1] at HA e0 e1 e2
 have hx1:=hx.below HA.out
 have hf1:=hf.below HA.out
 have HFD:=yh (zDG p b N f g F s hs A x.body.length c x.safe hF w1 hx1 hf1.1)
 have QZ:Hid (∀ v,Below w1.heap.size w1 v→v.cell? ⟨w.heap.size+2,0,none⟩=some (.int .i64 (k:Int))):=fun v hv =>zAA (i:=0) ((hv.block _ (zAJ e2)).trans e2) rfl
 have QF:Hid (∀ v,Below w1.heap.size w1 v→v.cell? ⟨w.heap.size,0,none⟩=some (.pointer (some ⟨p,0,none⟩))):=fun v hv =>zAA (i:=0) ((hv.block _ (zAJ e0)).trans e0) rfl
 have HACT:=yh (fun (w2:World) (hb2:Below w1.heap.size w1 w2) =>zEl p b false f g hfi hgi false 80 (enters_of Tryz.func80 (by kernel_rfl) rfl) #[.pointer (some ⟨w2.heap.size,0,none⟩),.pointer (some ⟨w.heap.size+2,0,none⟩),.pointer (some ⟨w.heap.size,0,none⟩),.pointer (some ⟨w.heap.size+1,0,none⟩)] (w2.alloc (.cells #[.slice A x.body.length c,.int .i64 (x.safe:Int)] 85)) ((hx1.below hb2).below ((Below.refl _ _).alloc (Nat.le_refl _) _))
  (fun W W' =>(∃ F',zAZ W' base b (N+1) (zAb fl s (some ⟨x.body.take k,min x.safe k⟩)) F'∧∀ j,zAU p b F' j→zAU p b F j∨W.heap.size≤j)∧W'.heap[p]? = W.heap[p]?∧Turn (zAU p b F) W W')
  (fun d W hW hg =>by
   have hb3:Below w1.heap.size w1 (w2.alloc (.cells #[.slice A x.body.length c,.int .i64 (x.safe:Int)] 85)):=hb2.alloc hb2.size _
   have hx3:=hx1.below hb3
   have hf3:=hf1.below hb3
   have hsz:=HA.out.size
   have hsz3:=hb3.size
   have hgs:=hg.size
   have hb2s:=hb2.size
   have hfW:=zBP hf3 hx3 hg
   obtain ⟨A5,c5,hF5,_,ho5⟩:=hfW.2.2.1 s x hfx
   have e5:A5=A∧c5=c:=by
    rw [hF] at hF5
    have e3:=Option.some.inj hF5
    unfold fval at e3
    simp only [Value.agg.injEq,Array.mk.injEq,List.cons.injEq,and_true,Value.slice.injEq,true_and] at e3
    exact ⟨e3.1.symm,e3.2.symm⟩
   rw [e5.1,e5.2] at ho5
   have hbox:=zAE w2 (.cells #[.slice A x.body.length c,.int .i64 (x.safe:Int)] 85)
   refine (zQI p b N base w2.heap.size (w.heap.size+2) w.heap.size (w.heap.size+1) d _ _ fl F s hs A x.body.length c x.safe k x.body hN (by omega) hcap.1 hcap.2 hA hk W (by omega) hW hfW ?_ ?_ ?_ ?_ (zAD.of_own ho5)).mono ?_
   ·exact (hg.block _ (zAJ hbox) (fun e =>by have:=Option.some.inj e;omega)).trans hbox
   ·exact (hg.block _ (Nat.lt_of_lt_of_le (zAJ e2) hsz3) (fun e =>by have:=Option.some.inj e;omega)).trans ((hb3.block _ (zAJ e2)).trans e2)
   ·exact (hg.block _ (Nat.lt_of_lt_of_le (zAJ e0) hsz3) (fun e =>by have:=Option.some.inj e;omega)).trans ((hb3.block _ (zAJ e0)).trans e0)
   ·exact (hg.block _ (Nat.lt_of_lt_of_le (zAJ e1) hsz3) (fun e =>by have:=Option.some.inj e;omega)).trans ((hb3.block _ (zAJ e1)).trans e1)
   ·rintro e W' ⟨he,F',hF',hx',ht',hsub⟩
    exact ⟨he,⟨F',hF',hsub⟩,hx'.trans hW.symm,ht'⟩))
 have q0:=zAA (i:=0) e0 rfl
 have q1:=zAA (i:=0) e1 rfl
 have q2:=zAA (i:=0) e2 rfl
 rw [hw1] at q0 q1 q2
 have HW1:=yh hw1
 rw [hw1] at HFD
 have HX1:=yh hx1
 have HF1:=yh hf1
 have HKN:Hid (k≤x.body.length):=hk
 have HBS:Hid (w.heap.size≤w1.heap.size):=HA.out.size
 obtain ⟨n,hn⟩:∃ n,n=x.body.length:=⟨_,rfl⟩
 have hkn:k≤n:=by rw [hn];exact hk
 have hz0:¬ (k:Int)<0:=by omega
 have hz1:¬ (k:Int) > (n:Int):=by omega
 rw [← hn] at HFD HACT
 clear hx hf ho hx1 hf1 e0 e1 e2 z0 z1 z2 hw1 hF hn hk hcap
 go_enter Tryz.func48,Tryz.ntmps48
 go_wp2_with fail
 refine HFD.out.mono ?_
 rintro e w2 ⟨rfl,hb2⟩
 rw [← HW1.out] at hb2
 have HB2:=yh hb2
 have hb3:Below w1.heap.size w1 (w2.alloc (.cells #[.slice A n c,.int .i64 (x.safe:Int)] 85)):=hb2.alloc hb2.size _
 have HB3:=yh hb3
 have hbox:=zAE w2 (.cells #[.slice A n c,.int .i64 (x.safe:Int)] 85)
 have b0:=zAA (i:=0) hbox rfl
 have hz3:=QZ.out _ hb3
 have hz4:=QF.out _ hb3
 have HACT2:=yh (HACT.out w2 hb2)
 clear hb2 hb3 hbox HACT
 go_wp2_with fail
 refine HACT2.out.mono ?_
 rintro e w5 ⟨W,hbx,hg,rfl,hrun,hno⟩
 have HBX:=yh hbx
 have HG:=yh hg
 have HRUN:=yh hrun
 have HNO:=yh hno
 clear hbx hg hrun hno
 go_wp2
 go_ret
 refine ⟨rfl,?_⟩
 have hbw:Below w.heap.size w (w2.alloc (.cells #[.slice A n c,.int .i64 (x.safe:Int)] 85)):=HA.out.trans (HB3.out.mono HA.out.size)
 have htw:Turn (zAU p b F) w W:=(Turn.of_below hbw).grown HG.out (fun i hi _ =>.inl (Option.some.inj hi).symm)
 have hbx2:zAM W p b (zAW g) (zAI f) (zAI g):=by have h:=HBX.out;rw [Bool.false_or] at h;exact h
 cases hru:zAs f g false with
 | true =>
  obtain ⟨⟨F',hF',hsub⟩,hp',ht'⟩:=HRUN.out hru
  refine ⟨N+1,F',hp'.trans hbx2,hF',by omega,htw.trans ht' (fun i _ h =>h),fun j hj =>?_⟩
  rcases hsub j hj with h | h
  ·exact .inl h
  ·exact .inr (by have:=hbw.size;have:=HG.out.size;omega)
 | false =>
  have e:=HNO.out hru
  subst e
  exact ⟨N,F,hbx2,zBP (HF1.out.below HB3.out) (HX1.out.below HB3.out) HG.out,by omega,htw,fun j hj =>.inl hj⟩
end Go.Proofs.YtekchkfjgofnkaaGreatDoor
