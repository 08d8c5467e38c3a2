/- Texts of one proof. -/
import Derived.Test.YtekchkfjgofnkaaGreatDoorMy34
set_option maxRecDepth 100000
set_option maxHeartbeats 8000000
namespace Go.Proofs.YtekchkfjgofnkaaGreatDoor
open Go.RowKit Go.Maps Go.ChangeMaps Go.WideMaps Go.Sort
theorem zOF (p b:Nat) (f g:Bool×Int) (s:List UInt8) (w:World) (hx:zAM w p b true f g) :
  Calls Tryz.prog 52 #[.pointer (some ⟨p,0,none⟩),.string (tx s)] w fun e w' =>e=.returned (.int .i64 7)∧Below w.heap.size w w':=by
 have z0:(w.alloc (.cells #[.pointer (some ⟨p,0,none⟩)] 27)).heap.size=w.heap.size+1:=by simp only [World.size_alloc]
 have z1:((w.alloc (.cells #[.pointer (some ⟨p,0,none⟩)] 27)).alloc (.cells #[.string (tx s)] 9)).heap.size=w.heap.size+2:=by simp only [World.size_alloc,Nat.add_assoc,Nat.reduceAdd]
 have HA:Hid (Below w.heap.size w ((w.alloc (.cells #[.pointer (some ⟨p,0,none⟩)] 27)).alloc (.cells #[.string (tx s)] 9))):=((Below.refl _ _).alloc (by first | exact Nat.le_refl _ | (rw [z0];omega)) _).alloc (by first | exact Nat.le_refl _ | (rw [z0];omega)) _
 have e0:=zAE w (.cells #[.pointer (some ⟨p,0,none⟩)] 27)
 have e0:=(Below.heap_alloc (w.alloc (.cells #[.pointer (some ⟨p,0,none⟩)] 27)) (.cells #[.string (tx s)] 9) _ (by rw [z0];omega)).trans e0
 have e1:=zAE (w.alloc (.cells #[.pointer (some ⟨p,0,none⟩)] 27)) (.cells #[.string (tx s)] 9)
 rw [z0] at e1
 obtain ⟨w1,hw1⟩:∃ x,x=((w.alloc (.cells #[.pointer (some ⟨p,0,none⟩)] 27)).alloc (.cells #[.string (tx s)] 9)):=⟨_,rfl⟩
 rw [← hw1] at HA e0 e1
 have hx1:=hx.below HA.out
 have HFD:=yh (zDr p b f g s w1 hx1)
 have q0:=zAA (i:=0) e0 rfl
 have q1:=zAA (i:=0) e1 rfl
 rw [hw1] at q0 q1
 have HW1:=yh hw1
 rw [hw1] at HFD
 clear hx hx1 e0 e1 z0 z1 hw1
 go_enter Tryz.func52,Tryz.ntmps52
 go_wp2_with fail
 refine HFD.out.mono ?_
 rintro e w2 ⟨rfl,hb2⟩
 rw [← HW1.out] at hb2
 have HB2:=yh (HA.out.trans (hb2.mono HA.out.size))
 clear hb2
 go_wp2
 go_ret
 exact ⟨rfl,HB2.out.alloc HB2.out.size _⟩
theorem zOG (p b N:Nat) (f g:Bool×Int) (s:List UInt8) (hs:s.length≤maxLen) (F:List UInt8→Option Value) (hF:F s=none) (w:World) (hx:zAM w p b false f g) (hm:TMap w b N F) :
  Calls Tryz.prog 52 #[.pointer (some ⟨p,0,none⟩),.string (tx s)] w fun e w' =>e=.returned (.int .i64 6)∧Below w.heap.size w w':=by
 have z0:(w.alloc (.cells #[.pointer (some ⟨p,0,none⟩)] 27)).heap.size=w.heap.size+1:=by simp only [World.size_alloc]
 have z1:((w.alloc (.cells #[.pointer (some ⟨p,0,none⟩)] 27)).alloc (.cells #[.string (tx s)] 9)).heap.size=w.heap.size+2:=by simp only [World.size_alloc,Nat.add_assoc,Nat.reduceAdd]
 have HA:Hid (Below w.heap.size w ((w.alloc (.cells #[.pointer (some ⟨p,0,none⟩)] 27)).alloc (.cells #[.string (tx s)] 9))):=((Below.refl _ _).alloc (by first | exact Nat.le_refl _ | (rw [z0];omega)) _).alloc (by first | exact Nat.le_refl _ | (rw [z0];omega)) _
 have e0:=zAE w (.cells #[.pointer (some ⟨p,0,none⟩)] 27)
 have e0:=(Below.heap_alloc (w.alloc (.cells #[.pointer (some ⟨p,0,none⟩)] 27)) (.cells #[.string (tx s)] 9) _ (by rw [z0];omega)).trans e0
 have e1:=zAE (w.alloc (.cells #[.pointer (some ⟨p,0,none⟩)] 27)) (.cells #[.string (tx s)] 9)
 rw [z0] at e1
 obtain ⟨w1,hw1⟩:∃ x,x=((w.alloc (.cells #[.pointer (some ⟨p,0,none⟩)] 27)).alloc (.cells #[.string (tx s)] 9)):=⟨_,rfl⟩
 rw [← hw1] at HA e0 e1
 have hx1:=hx.below HA.out
 have hm1:=hm.below HA.out
 have HFD:=yh (zDs p b N f g F s hs hF w1 hx1 hm1)
 have q0:=zAA (i:=0) e0 rfl
 have q1:=zAA (i:=0) e1 rfl
 rw [hw1] at q0 q1
 have HW1:=yh hw1
 rw [hw1] at HFD
 clear hx hx1 hm hm1 e0 e1 z0 z1 hw1
 go_enter Tryz.func52,Tryz.ntmps52
 go_wp2_with fail
 refine HFD.out.mono ?_
 rintro e w2 ⟨rfl,hb2⟩
 rw [← HW1.out] at hb2
 have HB2:=yh (HA.out.trans (hb2.mono HA.out.size))
 clear hb2
 go_wp2
 go_ret
 exact ⟨rfl,HB2.out.alloc HB2.out.size _⟩
theorem zPx (p b N base:Nat) (f g:Bool×Int) (hfi:zAN f) (hgi:zAN g) (fl:List UInt8→Option Fl) (F:List UInt8→Option Value) (s:List UInt8) (hs:s.length≤maxLen) (x:Fl) (hfx:fl s=some x) (hN:N<1000000) (w:World)
  (hx:zAM w p b false f g) (hf:zAZ w base b N fl F) :
  Calls Tryz.prog 52 #[.pointer (some ⟨p,0,none⟩),.string (tx s)] w fun e w' =>e=.returned (.int .i64 (zAx f g)) ∧
   ∃ N' F',zGB w w' base p b N N' (zAW g) (zAI f) (zAI g) (zDE (zAs f g false) (zAb fl s (some ⟨x.body,x.body.length⟩)) fl) F F':=by
 have hpl:=hx.lt
 obtain ⟨A,c,hF,hA,ho⟩:=hf.2.2.1 s x hfx
 have z0:(w.alloc (.cells #[.pointer (some ⟨p,0,none⟩)] 27)).heap.size=w.heap.size+1:=by simp only [World.size_alloc]
 have z1:((w.alloc (.cells #[.pointer (some ⟨p,0,none⟩)] 27)).alloc (.cells #[.string (tx s)] 9)).heap.size=w.heap.size+2:=by simp only [World.size_alloc,Nat.add_assoc,Nat.reduceAdd]
 have HA:Hid (Below w.heap.size w ((w.alloc (.cells #[.pointer (some ⟨p,0,none⟩)] 27)).alloc (.cells #[.string (tx s)] 9))):=((Below.refl _ _).alloc (by first | exact Nat.le_refl _ | (rw [z0];omega)) _).alloc (by first | exact Nat.le_refl _ | (rw [z0];omega)) _
 have e0:=zAE w (.cells #[.pointer (some ⟨p,0,none⟩)] 27)
 have e0:=(Below.heap_alloc (w.alloc (.cells #[.pointer (some ⟨p,0,none⟩)] 27)) (.cells #[.string (tx s)] 9) _ (by rw [z0];omega)).trans e0
 have e1:=zAE (w.alloc (.cells #[.pointer (some ⟨p,0,none⟩)] 27)) (.cells #[.string (tx s)] 9)
 rw [z0] at e1
 obtain ⟨w1,hw1⟩:∃ x,x=((w.alloc (.cells #[.pointer (some ⟨p,0,none⟩)] 27)).alloc (.cells #[.string (tx s)] 9)):=⟨_,rfl⟩
 rw [← hw1] at HA e0 e1
 have hx1:=hx.below HA.out
 have hf1:=hf.below HA.out
 have HFD:=yh (zDG p b N f g F s hs A x.body.length c x.safe hF w1 hx1 hf1.1)
 have QF:Hid (∀ v,Below w1.heap.size w1 v→v.cell? ⟨w.heap.size,0,none⟩=some (.pointer (some ⟨p,0,none⟩))):=fun v hv =>zAA (i:=0) ((hv.block _ (zAJ e0)).trans e0) rfl
 have HACT:=yh (fun (w2:World) (hb2:Below w1.heap.size w1 w2) =>zEl p b false f g hfi hgi false 81 (enters_of Tryz.func81 (by kernel_rfl) rfl) #[.pointer (some ⟨w2.heap.size,0,none⟩),.pointer (some ⟨w.heap.size,0,none⟩),.pointer (some ⟨w.heap.size+1,0,none⟩)] (w2.alloc (.cells #[.slice A x.body.length c,.int .i64 (x.safe:Int)] 85)) ((hx1.below hb2).below ((Below.refl _ _).alloc (Nat.le_refl _) _))
  (fun W W' =>(∃ F',zAZ W' base b (N+1) (zAb fl s (some ⟨x.body,x.body.length⟩)) F'∧∀ j,zAU p b F' j→zAU p b F j∨W.heap.size≤j)∧W'.heap[p]? = W.heap[p]?∧Turn (fun k =>zAU p b F k∨k=w2.heap.size) W W')
  (fun d W hW hg =>by
   have hb3:Below w1.heap.size w1 (w2.alloc (.cells #[.slice A x.body.length c,.int .i64 (x.safe:Int)] 85)):=hb2.alloc hb2.size _
   have hx3:=hx1.below hb3
   have hf3:=hf1.below hb3
   have hsz:=HA.out.size
   have hsz3:=hb3.size
   have hgs:=hg.size
   have hb2s:=hb2.size
   have hfW:=zBP hf3 hx3 hg
   have hbox:=zAE w2 (.cells #[.slice A x.body.length c,.int .i64 (x.safe:Int)] 85)
   refine (zRh p b N base w2.heap.size w.heap.size (w.heap.size+1) d _ _ fl F s hs x hfx A x.body.length c x.safe hN W hW hfW rfl rfl hF ?_ ?_ ?_).mono ?_
   ·exact (hg.block _ (zAJ hbox) (fun e =>by have:=Option.some.inj e;omega)).trans hbox
   ·exact (hg.block _ (Nat.lt_of_lt_of_le (zAJ e0) hsz3) (fun e =>by have:=Option.some.inj e;omega)).trans ((hb3.block _ (zAJ e0)).trans e0)
   ·exact (hg.block _ (Nat.lt_of_lt_of_le (zAJ e1) hsz3) (fun e =>by have:=Option.some.inj e;omega)).trans ((hb3.block _ (zAJ e1)).trans e1)
   ·rintro e W' ⟨he,F',hF',hx',ht',hsub⟩
    exact ⟨he,⟨F',hF',hsub⟩,hx'.trans hW.symm,ht'⟩))
 have q0:=zAA (i:=0) e0 rfl
 have q1:=zAA (i:=0) e1 rfl
 rw [hw1] at q0 q1
 have HW1:=yh hw1
 rw [hw1] at HFD
 have HX1:=yh hx1
 have HF1:=yh hf1
 have HBS:Hid (w.heap.size≤w1.heap.size):=HA.out.size
 obtain ⟨n,hn⟩:∃ n,n=x.body.length:=⟨_,rfl⟩
 have HNN:=yh hn
 rw [← hn] at HFD HACT
 clear hx hf ho hx1 hf1 e0 e1 z0 z1 hw1 hF hn hA
 go_enter Tryz.func52,Tryz.ntmps52
 go_wp2_with fail
 refine HFD.out.mono ?_
 rintro e w2 ⟨rfl,hb2⟩
 rw [← HW1.out] at hb2
 have HB2:=yh hb2
 have hb3:Below w1.heap.size w1 (w2.alloc (.cells #[.slice A n c,.int .i64 (x.safe:Int)] 85)):=hb2.alloc hb2.size _
 have HB3:=yh hb3
 have hz4:=QF.out _ hb3
 have HACT2:=yh (HACT.out w2 hb2)
 clear hb2 hb3 HACT
 go_wp2_with fail
 refine HACT2.out.mono ?_
 rintro e w5 ⟨W,hbx,hg,rfl,hrun,hno⟩
 have HBX:=yh hbx
 have HG:=yh hg
 have HRUN:=yh hrun
 have HNO:=yh hno
 clear hbx hg hrun hno
 go_wp2
 go_ret
 refine ⟨rfl,?_⟩
 have hbw:Below w.heap.size w (w2.alloc (.cells #[.slice A n c,.int .i64 (x.safe:Int)] 85)):=HA.out.trans (HB3.out.mono HA.out.size)
 have htw:Turn (zAU p b F) w W:=(Turn.of_below hbw).grown HG.out (fun i hi _ =>.inl (Option.some.inj hi).symm)
 have hbx2:zAM W p b (zAW g) (zAI f) (zAI g):=by have h:=HBX.out;rw [Bool.false_or] at h;exact h
 cases hru:zAs f g false with
 | true =>
  obtain ⟨⟨F',hF',hsub⟩,hp',ht'⟩:=HRUN.out hru
  refine ⟨N+1,F',hp'.trans hbx2,(by first | exact hF' | (rw [HNN.out] at hF';exact hF')),by omega,htw.trans ht' (fun i hi h =>h.resolve_right (fun e =>by have:=HB2.out.size;have:=HBS.out;omega)),fun j hj =>?_⟩
  rcases hsub j hj with h | h
  ·exact .inl h
  ·exact .inr (by have:=hbw.size;have:=HG.out.size;omega)
 | false =>
  have e:=HNO.out hru
  subst e
  exact ⟨N,F,hbx2,zBP (HF1.out.below HB3.out) (HX1.out.below HB3.out) HG.out,by omega,htw,fun j hj =>.inl hj⟩
theorem zKe (p b:Nat) (f g:Bool×Int) (r s:List UInt8) (w:World) (hx:zAM w p b true f g) :
  Calls Tryz.prog 76 #[.pointer (some ⟨p,0,none⟩),.string (tx r),.string (tx s)] w fun e w' =>e=.returned (.int .i64 7)∧Below w.heap.size w w':=by
 have z0:(w.alloc (.cells #[.pointer (some ⟨p,0,none⟩)] 27)).heap.size=w.heap.size+1:=by simp only [World.size_alloc]
 have z1:((w.alloc (.cells #[.pointer (some ⟨p,0,none⟩)] 27)).alloc (.cells #[.string (tx r)] 9)).heap.size=w.heap.size+2:=by simp only [World.size_alloc,Nat.add_assoc,Nat.reduceAdd]
 have z2:(((w.alloc (.cells #[.pointer (some ⟨p,0,none⟩)] 27)).alloc (.cells #[.string (tx r)] 9)).alloc (.cells #[.string (tx s)] 9)).heap.size=w.heap.size+3:=by simp only [World.size_alloc,Nat.add_assoc,Nat.reduceAdd]
 have HA:Hid (Below w.heap.size w (((w.alloc (.cells #[.pointer (some ⟨p,0,none⟩)] 27)).alloc (.cells #[.string (tx r)] 9)).alloc (.cells #[.string (tx s)] 9))):=(((Below.refl _ _).alloc (by first | exact Nat.le_refl _ | (rw [z0];omega)) _).alloc (by first | exact Nat.le_refl _ | (rw [z0];omega)) _).alloc (by first | exact Nat.le_refl _ | (rw [z1];omega)) _
 have e0:=zAE w (.cells #[.pointer (some ⟨p,0,none⟩)] 27)
 have e0:=(Below.heap_alloc (w.alloc (.cells #[.pointer (some ⟨p,0,none⟩)] 27)) (.cells #[.string (tx r)] 9) _ (by rw [z0];omega)).trans e0
 have e0:=(Below.heap_alloc ((w.alloc (.cells #[.pointer (some ⟨p,0,none⟩)] 27)).alloc (.cells #[.string (tx r)] 9)) (.cells #[.string (tx s)] 9) _ (by rw [z1];omega)).trans e0
 have e1:=zAE (w.alloc (.cells #[.pointer (some ⟨p,0,none⟩)] 27)) (.cells #[.string (tx r)] 9)
 rw [z0] at e1
 have e1:=(Below.heap_alloc ((w.alloc (.cells #[.pointer (some ⟨p,0,none⟩)] 27)).alloc (.cells #[.string (tx r)] 9)) (.cells #[.string (tx s)] 9) _ (by rw [z1];omega)).trans e1
 have e2:=zAE ((w.alloc (.cells #[.pointer (some ⟨p,0,none⟩)] 27)).alloc (.cells #[.string (tx r)] 9)) (.cells #[.string (tx s)] 9)
 rw [z1] at e2
 obtain ⟨w1,hw1⟩:∃ x,x=(((w.alloc (.cells #[.pointer (some ⟨p,0,none⟩)] 27)).alloc (.cells #[.string (tx r)] 9)).alloc (.cells #[.string (tx s)] 9)):=⟨_,rfl⟩
 rw [← hw1] at HA e0 e1 e2
 have hx1:=hx.below HA.out
 have HFD:=yh (zDr p b f g r w1 hx1)
 have q0:=zAA (i:=0) e0 rfl
 have q1:=zAA (i:=0) e1 rfl
 have q2:=zAA (i:=0) e2 rfl
 rw [hw1] at q0 q1 q2
 have HW1:=yh hw1
 rw [hw1] at HFD
 clear hx hx1 e0 e1 e2 z0 z1 z2 hw1
 go_enter Tryz.func76,Tryz.ntmps76
 go_wp2_with fail
 refine HFD.out.mono ?_
 rintro e w2 ⟨rfl,hb2⟩
 rw [← HW1.out] at hb2
 have HB2:=yh (HA.out.trans (hb2.mono HA.out.size))
 clear hb2
 go_wp2
 go_ret
 exact ⟨rfl,HB2.out.alloc HB2.out.size _⟩
theorem zKf (p b N:Nat) (f g:Bool×Int) (r s:List UInt8) (hr:r.length≤maxLen) (F:List UInt8→Option Value) (hF:F r=none) (w:World) (hx:zAM w p b false f g) (hm:TMap w b N F) :
  Calls Tryz.prog 76 #[.pointer (some ⟨p,0,none⟩),.string (tx r),.string (tx s)] w fun e w' =>e=.returned (.int .i64 6)∧Below w.heap.size w w':=by
 have z0:(w.alloc (.cells #[.pointer (some ⟨p,0,none⟩)] 27)).heap.size=w.heap.size+1:=by simp only [World.size_alloc]
 have z1:((w.alloc (.cells #[.pointer (some ⟨p,0,none⟩)] 27)).alloc (.cells #[.string (tx r)] 9)).heap.size=w.heap.size+2:=by simp only [World.size_alloc,Nat.add_assoc,Nat.reduceAdd]
 have z2:(((w.alloc (.cells #[.pointer (some ⟨p,0,none⟩)] 27)).alloc (.cells #[.string (tx r)] 9)).alloc (.cells #[.string (tx s)] 9)).heap.size=w.heap.size+3:=by simp only [World.size_alloc,Nat.add_assoc,Nat.reduceAdd]
 have HA:Hid (Below w.heap.size w (((w.alloc (.cells #[.pointer (some ⟨p,0,none⟩)] 27)).alloc (.cells #[.string (tx r)] 9)).alloc (.cells #[.string (tx s)] 9))):=(((Below.refl _ _).alloc (by first | exact Nat.le_refl _ | (rw [z0];omega)) _).alloc (by first | exact Nat.le_refl _ | (rw [z0];omega)) _).alloc (by first | exact Nat.le_refl _ | (rw [z1];omega)) _
 have e0:=zAE w (.cells #[.pointer (some ⟨p,0,none⟩)] 27)
 have e0:=(Below.heap_alloc (w.alloc (.cells #[.pointer (some ⟨p,0,none⟩)] 27)) (.cells #[.string (tx r)] 9) _ (by rw [z0];omega)).trans e0
 have e0:=(Below.heap_alloc ((w.alloc (.cells #[.pointer (some ⟨p,0,none⟩)] 27)).alloc (.cells #[.string (tx r)] 9)) (.cells #[.string (tx s)] 9) _ (by rw [z1];omega)).trans e0
 have e1:=zAE (w.alloc (.cells #[.pointer (some ⟨p,0,none⟩)] 27)) (.cells #[.string (tx r)] 9)
 rw [z0] at e1
 have e1:=(Below.heap_alloc ((w.alloc (.cells #[.pointer (some ⟨p,0,none⟩)] 27)).alloc (.cells #[.string (tx r)] 9)) (.cells #[.string (tx s)] 9) _ (by rw [z1];omega)).trans e1
 have e2:=zAE ((w.alloc (.cells #[.pointer (some ⟨p,0,none⟩)] 27)).alloc (.cells #[.string (tx r)] 9)) (.cells #[.string (tx s)] 9)
 rw [z1] at e2
 obtain ⟨w1,hw1⟩:∃ x,x=(((w.alloc (.cells #[.pointer (some ⟨p,0,none⟩)] 27)).alloc (.cells #[.string (tx r)] 9)).alloc (.cells #[.string (tx s)] 9)):=⟨_,rfl⟩
 rw [← hw1] at HA e0 e1 e2
 have hx1:=hx.below HA.out
 have hm1:=hm.below HA.out
 have HFD:=yh (zDs p b N f g F r hr hF w1 hx1 hm1)
 have q0:=zAA (i:=0) e0 rfl
 have q1:=zAA (i:=0) e1 rfl
 have q2:=zAA (i:=0) e2 rfl
 rw [hw1] at q0 q1 q2
 have HW1:=yh hw1
 rw [hw1] at HFD
 clear hx hx1 hm hm1 e0 e1 e2 z0 z1 z2 hw1
 go_enter Tryz.func76,Tryz.ntmps76
 go_wp2_with fail
 refine HFD.out.mono ?_
 rintro e w2 ⟨rfl,hb2⟩
 rw [← HW1.out] at hb2
 have HB2:=yh (HA.out.trans (hb2.mono HA.out.size))
 clear hb2
 go_wp2
 go_ret
 exact ⟨rfl,HB2.out.alloc HB2.out.size _⟩
theorem zMF (p b N base:Nat) (f g:Bool×Int) (hfi:zAN f) (hgi:zAN g) (fl:List UInt8→Option Fl) (F:List UInt8→Option Value) (r s:List UInt8) (hr:r.length≤maxLen) (hs:s.length≤maxLen) (x:Fl) (hfx:fl r=some x) (hN:N<1000000) (w:World)
  (hx:zAM w p b false f g) (hf:zAZ w base b N fl F) :
  Calls Tryz.prog 76 #[.pointer (some ⟨p,0,none⟩),.string (tx r),.string (tx s)] w fun e w' =>e=.returned (.int .i64 (zAx f g)) ∧
   ∃ N' F',zGB w w' base p b N N' (zAW g) (zAI f) (zAI g) (zDE (zAs f g false) (zAb (zAb fl r none) s (some x)) fl) F F':=by
 have hpl:=hx.lt
 obtain ⟨A,c,hF,hA,ho⟩:=hf.2.2.1 r x hfx
 have z0:(w.alloc (.cells #[.pointer (some ⟨p,0,none⟩)] 27)).heap.size=w.heap.size+1:=by simp only [World.size_alloc]
 have z1:((w.alloc (.cells #[.pointer (some ⟨p,0,none⟩)] 27)).alloc (.cells #[.string (tx r)] 9)).heap.size=w.heap.size+2:=by simp only [World.size_alloc,Nat.add_assoc,Nat.reduceAdd]
 have z2:(((w.alloc (.cells #[.pointer (some ⟨p,0,none⟩)] 27)).alloc (.cells #[.string (tx r)] 9)).alloc (.cells #[.string (tx s)] 9)).heap.size=w.heap.size+3:=by simp only [World.size_alloc,Nat.add_assoc,Nat.reduceAdd]
 have HA:Hid (Below w.heap.size w (((w.alloc (.cells #[.pointer (some ⟨p,0,none⟩)] 27)).alloc (.cells #[.string (tx r)] 9)).alloc (.cells #[.string (tx s)] 9))):=(((Below.refl _ _).alloc (by first | exact Nat.le_refl _ | (rw [z0];omega)) _).alloc (by first | exact Nat.le_refl _ | (rw [z0];omega)) _).alloc (by first | exact Nat.le_refl _ | (rw [z1];omega)) _
 have e0:=zAE w (.cells #[.pointer (some ⟨p,0,none⟩)] 27)
 have e0:=(Below.heap_alloc (w.alloc (.cells #[.pointer (some ⟨p,0,none⟩)] 27)) (.cells #[.string (tx r)] 9) _ (by rw [z0];omega)).trans e0
 have e0:=(Below.heap_alloc ((w.alloc (.cells #[.pointer (some ⟨p,0,none⟩)] 27)).alloc (.cells #[.string (tx r)] 9)) (.cells #[.string (tx s)] 9) _ (by rw [z1];omega)).trans e0
 have e1:=zAE (w.alloc (.cells #[.pointer (some ⟨p,0,none⟩)] 27)) (.cells #[.string (tx r)] 9)
 rw [z0] at e1
 have e1:=(Below.heap_alloc ((w.alloc (.cells #[.pointer (some ⟨p,0,none⟩)] 27)).alloc (.cells #[.string (tx r)] 9)) (.cells #[.string (tx s)] 9) _ (by rw [z1];omega)).trans e1
 have e2:=zAE ((w.alloc (.cells #[.pointer (some ⟨p,0,none⟩)] 27)).alloc (.cells #[.string (tx r)] 9)) (.cells #[.string (tx s)] 9)
 rw [z1] at e2
 obtain ⟨w1,hw1⟩:∃ x,x=(((w.alloc (.cells #[.pointer (some ⟨p,0,none⟩)] 27)).alloc (.cells #[.string (tx r)] 9)).alloc (.cells #[.string (tx s)] 9)):=⟨_,rfl⟩
 rw [← hw1] at HA e0 e1 e2
 have hx1:=hx.below HA.out
 have hf1:=hf.below HA.out
 have HFD:=yh (zDG p b N f g F r hr A x.body.length c x.safe hF w1 hx1 hf1.1)
 have QF:Hid (∀ v,Below w1.heap.size w1 v→v.cell? ⟨w.heap.size,0,none⟩=some (.pointer (some ⟨p,0,none⟩))):=fun v hv =>zAA (i:=0) ((hv.block _ (zAJ e0)).trans e0) rfl
 have HACT:=yh (fun (w2:World) (hb2:Below w1.heap.size w1 w2) =>zEl p b false f g hfi hgi false 97 (enters_of Tryz.func97 (by kernel_rfl) rfl) #[.pointer (some ⟨w.heap.size,0,none⟩),.pointer (some ⟨w.heap.size+1,0,none⟩),.pointer (some ⟨w2.heap.size,0,none⟩),.pointer (some ⟨w.heap.size+2,0,none⟩)] (w2.alloc (.cells #[.slice A x.body.length c,.int .i64 (x.safe:Int)] 85)) ((hx1.below hb2).below ((Below.refl _ _).alloc (Nat.le_refl _) _))
  (fun W W' =>(∃ F',zAZ W' base b (N+1) (zAb (zAb fl r none) s (some x)) F'∧∀ j,zAU p b F' j→zAU p b F j∨W.heap.size≤j)∧W'.heap[p]? = W.heap[p]?∧Turn (zAU p b F) W W')
  (fun d W hW hg =>by
   have hb3:Below w1.heap.size w1 (w2.alloc (.cells #[.slice A x.body.length c,.int .i64 (x.safe:Int)] 85)):=hb2.alloc hb2.size _
   have hx3:=hx1.below hb3
   have hf3:=hf1.below hb3
   have hsz:=HA.out.size
   have hsz3:=hb3.size
   have hgs:=hg.size
   have hb2s:=hb2.size
   have hfW:=zBP hf3 hx3 hg
   have hbox:=zAE w2 (.cells #[.slice A x.body.length c,.int .i64 (x.safe:Int)] 85)
   refine (zNr p b N base w2.heap.size w.heap.size (w.heap.size+1) (w.heap.size+2) d _ _ fl F r s hr hs x hfx A x.body.length c x.safe hN W hW hfW rfl rfl hF ?_ ?_ ?_ ?_).mono ?_
   ·exact (hg.block _ (zAJ hbox) (fun e =>by have:=Option.some.inj e;omega)).trans hbox
   ·exact (hg.block _ (Nat.lt_of_lt_of_le (zAJ e0) hsz3) (fun e =>by have:=Option.some.inj e;omega)).trans ((hb3.block _ (zAJ e0)).trans e0)
   ·exact (hg.block _ (Nat.lt_of_lt_of_le (zAJ e1) hsz3) (fun e =>by have:=Option.some.inj e;omega)).trans ((hb3.block _ (zAJ e1)).trans e1)
   ·exact (hg.block _ (Nat.lt_of_lt_of_le (zAJ e2) hsz3) (fun e =>by have:=Option.some.inj e;omega)).trans ((hb3.block _ (zAJ e2)).trans e2)
   ·rintro e W' ⟨he,F',hF',hx',ht',hsub⟩
    exact ⟨he,⟨F',hF',hsub⟩,hx'.trans hW.symm,ht'⟩))
 have q0:=zAA (i:=0) e0 rfl
 have q1:=zAA (i:=0) e1 rfl
 have q2:=zAA (i:=0) e2 rfl
 rw [hw1] at q0 q1 q2
 have HW1:=yh hw1
 rw [hw1] at HFD
 have HX1:=yh hx1
 have HF1:=yh hf1
 have HBS:Hid (w.heap.size≤w1.heap.size):=HA.out.size
 obtain ⟨n,hn⟩:∃ n,n=x.body.length:=⟨_,rfl⟩
 have HNN:=yh hn
 rw [← hn] at HFD HACT
 clear hx hf ho hx1 hf1 e0 e1 e2 z0 z1 z2 hw1 hF hn hA
 go_enter Tryz.func76,Tryz.ntmps76
 go_wp2_with fail
 refine HFD.out.mono ?_
 rintro e w2 ⟨rfl,hb2⟩
 rw [← HW1.out] at hb2
 have HB2:=yh hb2
 have hb3:Below w1.heap.size w1 (w2.alloc (.cells #[.slice A n c,.int .i64 (x.safe:Int)] 85)):=hb2.alloc hb2.size _
 have HB3:=yh hb3
 have hz4:=QF.out _ hb3
 have HACT2:=yh (HACT.out w2 hb2)
 clear hb2 hb3 HACT
 go_wp2_with fail
 refine HACT2.out.mono ?_
 rintro e w5 ⟨W,hbx,hg,rfl,hrun,hno⟩
 have HBX:=yh hbx
 have HG:=yh hg
 have HRUN:=yh hrun
 have HNO:=yh hno
 clear hbx hg hrun hno
 go_wp2
 go_ret
 refine ⟨rfl,?_⟩
 have hbw:Below w.heap.size w (w2.alloc (.cells #[.slice A n c,.int .i64 (x.safe:Int)] 85)):=HA.out.trans (HB3.out.mono HA.out.size)
 have htw:Turn (zAU p b F) w W:=(Turn.of_below hbw).grown HG.out (fun i hi _ =>.inl (Option.some.inj hi).symm)
 have hbx2:zAM W p b (zAW g) (zAI f) (zAI g):=by have h:=HBX.out;rw [Bool.false_or] at h;exact h
 cases hru:zAs f g false with
 | true =>
  obtain ⟨⟨F',hF',hsub⟩,hp',ht'⟩:=HRUN.out hru
  refine ⟨N+1,F',hp'.trans hbx2,(by first | exact hF' | (rw [HNN.out] at hF';exact hF')),by omega,htw.trans ht' (fun i hi h =>h),fun j hj =>?_⟩
  rcases hsub j hj with h | h
  ·exact .inl h
  ·exact .inr (by have:=hbw.size;have:=HG.out.size;omega)
 | false =>
  have e:=HNO.out hru
  subst e
  exact ⟨N,F,hbx2,zBP (HF1.out.below HB3.out) (HX1.out.below HB3.out) HG.out,by omega,htw,fun j hj =>.inl hj⟩
theorem zKc (p b:Nat) (f g:Bool×Int) (s:List UInt8) (w:World) (hx:zAM w p b true f g) :
  Calls Tryz.prog 45 #[.pointer (some ⟨p,0,none⟩),.string (tx s)] w fun e w' =>e=.returned (.int .i64 7)∧Below w.heap.size w w':=by
 have z0:(w.alloc (.cells #[.pointer (some ⟨p,0,none⟩)] 27)).heap.size=w.heap.size+1:=by simp only [World.size_alloc]
 have z1:((w.alloc (.cells #[.pointer (some ⟨p,0,none⟩)] 27)).alloc (.cells #[.string (tx s)] 9)).heap.size=w.heap.size+2:=by simp only [World.size_alloc,Nat.add_assoc,Nat.reduceAdd]
 have HA:Hid (Below w.heap.size w ((w.alloc (.cells #[.pointer (some ⟨p,0,none⟩)] 27)).alloc (.cells #[.string (tx s)] 9))):=((Below.refl _ _).alloc (by first | exact Nat.le_refl _ | (rw [z0];omega)) _).alloc (by first | exact Nat.le_refl _ | (rw [z0];omega)) _
 have e0:=zAE w (.cells #[.pointer (some ⟨p,0,none⟩)] 27)
 have e0:=(Below.heap_alloc (w.alloc (.cells #[.pointer (some ⟨p,0,none⟩)] 27)) (.cells #[.string (tx s)] 9) _ (by rw [z0];omega)).trans e0
 have e1:=zAE (w.alloc (.cells #[.pointer (some ⟨p,0,none⟩)] 27)) (.cells #[.string (tx s)] 9)
 rw [z0] at e1
 obtain ⟨w1,hw1⟩:∃ x,x=((w.alloc (.cells #[.pointer (some ⟨p,0,none⟩)] 27)).alloc (.cells #[.string (tx s)] 9)):=⟨_,rfl⟩
 rw [← hw1] at HA e0 e1
 have hx1:=hx.below HA.out
 have HFD:=yh (zDr p b f g s w1 hx1)
 have q0:=zAA (i:=0) e0 rfl
 have q1:=zAA (i:=0) e1 rfl
 rw [hw1] at q0 q1
 have HW1:=yh hw1
 rw [hw1] at HFD
 clear hx hx1 e0 e1 z0 z1 hw1
 go_enter Tryz.func45,Tryz.ntmps45
 go_wp2_with fail
 refine HFD.out.mono ?_
 rintro e w2 ⟨rfl,hb2⟩
 rw [← HW1.out] at hb2
 have HB2:=yh (HA.out.trans (hb2.mono HA.out.size))
 clear hb2
 go_wp2
 go_ret
 exact ⟨rfl,HB2.out.alloc HB2.out.size _⟩
theorem zKd (p b N:Nat) (f g:Bool×Int) (s:List UInt8) (hs:s.length≤maxLen) (F:List UInt8→Option Value) (hF:F s=none) (w:World) (hx:zAM w p b false f g) (hm:TMap w b N F) :
  Calls Tryz.prog 45 #[.pointer (some ⟨p,0,none⟩),.string (tx s)] w fun e w' =>e=.returned (.int .i64 6)∧Below w.heap.size w w':=by
 have z0:(w.alloc (.cells #[.pointer (some ⟨p,0,none⟩)] 27)).heap.size=w.heap.size+1:=by simp only [World.size_alloc]
 have z1:((w.alloc (.cells #[.pointer (some ⟨p,0,none⟩)] 27)).alloc (.cells #[.string (tx s)] 9)).heap.size=w.heap.size+2:=by simp only [World.size_alloc,Nat.add_assoc,Nat.reduceAdd]
 have HA:Hid (Below w.heap.size w ((w.alloc (.cells #[.pointer (some ⟨p,0,none⟩)] 27)).alloc (.cells #[.string (tx s)] 9))):=((Below.refl _ _).alloc (by first | exact Nat.le_refl _ | (rw [z0];omega)) _).alloc (by first | exact Nat.le_refl _ | (rw [z0];omega)) _
 have e0:=zAE w (.cells #[.pointer (some ⟨p,0,none⟩)] 27)
 have e0:=(Below.heap_alloc (w.alloc (.cells #[.pointer (some ⟨p,0,none⟩)] 27)) (.cells #[.string (tx s)] 9) _ (by rw [z0];omega)).trans e0
 have e1:=zAE (w.alloc (.cells #[.pointer (some ⟨p,0,none⟩)] 27)) (.cells #[.string (tx s)] 9)
 rw [z0] at e1
 obtain ⟨w1,hw1⟩:∃ x,x=((w.alloc (.cells #[.pointer (some ⟨p,0,none⟩)] 27)).alloc (.cells #[.string (tx s)] 9)):=⟨_,rfl⟩
 rw [← hw1] at HA e0 e1
 have hx1:=hx.below HA.out
 have hm1:=hm.below HA.out
 have HFD:=yh (zDs p b N f g F s hs hF w1 hx1 hm1)
 have q0:=zAA (i:=0) e0 rfl
 have q1:=zAA (i:=0) e1 rfl
 rw [hw1] at q0 q1
 have HW1:=yh hw1
 rw [hw1] at HFD
 clear hx hx1 hm hm1 e0 e1 z0 z1 hw1
 go_enter Tryz.func45,Tryz.ntmps45
 go_wp2_with fail
 refine HFD.out.mono ?_
 rintro e w2 ⟨rfl,hb2⟩
 rw [← HW1.out] at hb2
 have HB2:=yh (HA.out.trans (hb2.mono HA.out.size))
 clear hb2
 go_wp2
 go_ret
 exact ⟨rfl,HB2.out.alloc HB2.out.size _⟩
theorem zME (p b N base:Nat) (f g:Bool×Int) (hfi:zAN f) (hgi:zAN g) (fl:List UInt8→Option Fl) (F:List UInt8→Option Value) (s:List UInt8) (hs:s.length≤maxLen) (x:Fl) (hfx:fl s=some x)  (w:World)
  (hx:zAM w p b false f g) (hf:zAZ w base b N fl F) :
  Calls Tryz.prog 45 #[.pointer (some ⟨p,0,none⟩),.string (tx s)] w fun e w' =>e=.returned (.int .i64 (zAx f g)) ∧
   ∃ N' F',zGB w w' base p b N N' (zAW g) (zAI f) (zAI g) (zDE (zAs f g false) (zAb fl s none) fl) F F':=by
 have hpl:=hx.lt
 obtain ⟨A,c,hF,hA,ho⟩:=hf.2.2.1 s x hfx
 have z0:(w.alloc (.cells #[.pointer (some ⟨p,0,none⟩)] 27)).heap.size=w.heap.size+1:=by simp only [World.size_alloc]
 have z1:((w.alloc (.cells #[.pointer (some ⟨p,0,none⟩)] 27)).alloc (.cells #[.string (tx s)] 9)).heap.size=w.heap.size+2:=by simp only [World.size_alloc,Nat.add_assoc,Nat.reduceAdd]
 have HA:Hid (Below w.heap.size w ((w.alloc (.cells #[.pointer (some ⟨p,0,none⟩)] 27)).alloc (.cells #[.string (tx s)] 9))):=((Below.refl _ _).alloc (by first | exact Nat.le_refl _ | (rw [z0];omega)) _).alloc (by first | exact Nat.le_refl _ | (rw [z0];omega)) _
 have e0:=zAE w (.cells #[.pointer (some ⟨p,0,none⟩)] 27)
 have e0:=(Below.heap_alloc (w.alloc (.cells #[.pointer (some ⟨p,0,none⟩)] 27)) (.cells #[.string (tx s)] 9) _ (by rw [z0];omega)).trans e0
 have e1:=zAE (w.alloc (.cells #[.pointer (some ⟨p,0,none⟩)] 27)) (.cells #[.string (tx s)] 9)
 rw [z0] at e1
 obtain ⟨w1,hw1⟩:∃ x,x=((w.alloc (.cells #[.pointer (some ⟨p,0,none⟩)] 27)).alloc (.cells #[.string (tx s)] 9)):=⟨_,rfl⟩
 rw [← hw1] at HA e0 e1
 have hx1:=hx.below HA.out
 have hf1:=hf.below HA.out
 have HFD:=yh (zDG p b N f g F s hs A x.body.length c x.safe hF w1 hx1 hf1.1)
 have QF:Hid (∀ v,Below w1.heap.size w1 v→v.cell? ⟨w.heap.size,0,none⟩=some (.pointer (some ⟨p,0,none⟩))):=fun v hv =>zAA (i:=0) ((hv.block _ (zAJ e0)).trans e0) rfl
 have HACT:=yh (fun (w2:World) (hb2:Below w1.heap.size w1 w2) =>zEl p b false f g hfi hgi false 67 (enters_of Tryz.func67 (by kernel_rfl) rfl) #[.pointer (some ⟨w.heap.size,0,none⟩),.pointer (some ⟨w.heap.size+1,0,none⟩)] (w2.alloc (.cells #[.slice A x.body.length c,.int .i64 (x.safe:Int)] 85)) ((hx1.below hb2).below ((Below.refl _ _).alloc (Nat.le_refl _) _))
  (fun W W' =>(∃ F',zAZ W' base b (N) (zAb fl s none) F'∧∀ j,zAU p b F' j→zAU p b F j∨W.heap.size≤j)∧W'.heap[p]? = W.heap[p]?∧Turn (zAU p b F) W W')
  (fun d W hW hg =>by
   have hb3:Below w1.heap.size w1 (w2.alloc (.cells #[.slice A x.body.length c,.int .i64 (x.safe:Int)] 85)):=hb2.alloc hb2.size _
   have hx3:=hx1.below hb3
   have hf3:=hf1.below hb3
   have hsz:=HA.out.size
   have hsz3:=hb3.size
   have hgs:=hg.size
   have hb2s:=hb2.size
   have hfW:=zBP hf3 hx3 hg
   have hbox:=zAE w2 (.cells #[.slice A x.body.length c,.int .i64 (x.safe:Int)] 85)
   refine (zNq p b N base w.heap.size (w.heap.size+1) d _ _ fl F s hs W hW hfW ?_ ?_).mono ?_
   ·exact (hg.block _ (Nat.lt_of_lt_of_le (zAJ e0) hsz3) (fun e =>by have:=Option.some.inj e;omega)).trans ((hb3.block _ (zAJ e0)).trans e0)
   ·exact (hg.block _ (Nat.lt_of_lt_of_le (zAJ e1) hsz3) (fun e =>by have:=Option.some.inj e;omega)).trans ((hb3.block _ (zAJ e1)).trans e1)
   ·rintro e W' ⟨he,F',hF',hx',ht',hsub⟩
    exact ⟨he,⟨F',hF',hsub⟩,hx'.trans hW.symm,ht'⟩))
 have q0:=zAA (i:=0) e0 rfl
 have q1:=zAA (i:=0) e1 rfl
 rw [hw1] at q0 q1
 have HW1:=yh hw1
 rw [hw1] at HFD
 have HX1:=yh hx1
 have HF1:=yh hf1
 have HBS:Hid (w.heap.size≤w1.heap.size):=HA.out.size
 obtain ⟨n,hn⟩:∃ n,n=x.body.length:=⟨_,rfl⟩
 have HNN:=yh hn
 rw [← hn] at HFD HACT
 clear hx hf ho hx1 hf1 e0 e1 z0 z1 hw1 hF hn hA
 go_enter Tryz.func45,Tryz.ntmps45
 go_wp2_with fail
 refine HFD.out.mono ?_
 rintro e w2 ⟨rfl,hb2⟩
 rw [← HW1.out] at hb2
 have HB2:=yh hb2
 have hb3:Below w1.heap.size w1 (w2.alloc (.cells #[.slice A n c,.int .i64 (x.safe:Int)] 85)):=hb2.alloc hb2.size _
 have HB3:=yh hb3
 have hz4:=QF.out _ hb3
 have HACT2:=yh (HACT.out w2 hb2)
 clear hb2 hb3 HACT
 go_wp2_with fail
 refine HACT2.out.mono ?_
 rintro e w5 ⟨W,hbx,hg,rfl,hrun,hno⟩
 have HBX:=yh hbx
 have HG:=yh hg
 have HRUN:=yh hrun
 have HNO:=yh hno
 clear hbx hg hrun hno
 go_wp2
 go_ret
 refine ⟨rfl,?_⟩
 have hbw:Below w.heap.size w (w2.alloc (.cells #[.slice A n c,.int .i64 (x.safe:Int)] 85)):=HA.out.trans (HB3.out.mono HA.out.size)
 have htw:Turn (zAU p b F) w W:=(Turn.of_below hbw).grown HG.out (fun i hi _ =>.inl (Option.some.inj hi).symm)
 have hbx2:zAM W p b (zAW g) (zAI f) (zAI g):=by have h:=HBX.out;rw [Bool.false_or] at h;exact h
 cases hru:zAs f g false with
 | true =>
  obtain ⟨⟨F',hF',hsub⟩,hp',ht'⟩:=HRUN.out hru
  refine ⟨N,F',hp'.trans hbx2,(by first | exact hF' | (rw [HNN.out] at hF';exact hF')),by omega,htw.trans ht' (fun i hi h =>h),fun j hj =>?_⟩
  rcases hsub j hj with h | h
  ·exact .inl h
  ·exact .inr (by have:=hbw.size;have:=HG.out.size;omega)
 | false =>
  have e:=HNO.out hru
  subst e
  exact ⟨N,F,hbx2,zBP (HF1.out.below HB3.out) (HX1.out.below HB3.out) HG.out,by omega,htw,fun j hj =>.inl hj⟩
theorem zQM (base:Nat) (w:World) :
  Calls Tryz.prog 7 #[] w fun e w' =>e=.returned (.pointer (some ⟨w.heap.size+1,0,none⟩))∧zAM w' (w.heap.size+1) w.heap.size false (false,0) (false,0)∧zAZ w' base w.heap.size 0 (fun _ =>none) (fun _ =>none)∧Below w.heap.size w w':=by
 have hmm:=@run_makeMap Tryz.prog
 have z0:(w.alloc (.map #[] 0)).heap.size=w.heap.size+1:=by simp
 have HB:Hid (Below w.heap.size w ((w.alloc (.map #[] 0)).alloc (.cells #[.map (some w.heap.size),.bool false,.bool false,.int .i64 0,.bool false,.int .i64 0] 73))):=((Below.refl _ _).alloc (Nat.le_refl _) _).alloc (by rw [z0];omega) _
 have HX:=zAE (w.alloc (.map #[] 0)) (.cells #[.map (some w.heap.size),.bool false,.bool false,.int .i64 0,.bool false,.int .i64 0] 73)
 rw [z0] at HX
 have HX1:=yh HX
 have HM:=yh ((zMS w).below ((Below.refl (w.alloc (.map #[] 0)).heap.size (w.alloc (.map #[] 0))).alloc (Nat.le_refl _) (.cells #[.map (some w.heap.size),.bool false,.bool false,.int .i64 0,.bool false,.int .i64 0] 73)))
 clear HX z0
 go_enter Tryz.func7,Tryz.ntmps7
 go_wp2
 go_ret
 exact ⟨rfl,HX1.out,⟨HM.out,fun _ _ =>rfl,fun _ _ h =>(by cases h),fun _ _ _ _ _ _ _ _ _ _ _ h =>(by cases h)⟩,HB.out⟩
theorem zOk (p b:Nat) (down:Bool) (f g:Bool×Int) (w:World) (h:zAM w p b down f g) :
  Calls Tryz.prog 25 #[.pointer (some ⟨p,0,none⟩)] w fun e w' =>e=.returned (.bool down)∧w=w':=by
 have c1:=zAA (i:=1) h rfl
 clear h
 go_enter Tryz.func25,Tryz.ntmps25
 go_wp2
 go_ret
 exact ⟨rfl,by first | trivial | rfl⟩
theorem zFp (p b N base:Nat) (down:Bool) (f g:Bool×Int) (fl:List UInt8→Option Fl) (F:List UInt8→Option Value) (s:List UInt8) (hs:s.length≤maxLen) (x:Fl) (hfx:fl s=some x) (hxl:x.body.length≤1073741824) (w:World) (h:zAM w p b down f g) (hf:zAZ w base b N fl F) :
  Calls Tryz.prog 19 #[.pointer (some ⟨p,0,none⟩),.string (tx s)] w fun e w' =>(∃ A' c',e=.returned (.tuple #[.slice A' x.body.length c',.int .i64 0])∧(A'=none→c'=0)∧w'.ownsRow w.heap.size 5 1 (.slice A' x.body.length c') x.body.length (x.body.map bv))∧Below w.heap.size w w':=by
 have c0:=zAA (i:=0) h rfl
 obtain ⟨A,c,hF,hA,ho⟩:=hf.2.2.1 s x hfx
 have hlk:=hf.1.look2 hs Tryz.underlying69 (zIw w)
 rw [hF] at hlk
 simp only [Option.getD_some,Option.isSome_some] at hlk
 unfold fval at hlk
 have HB1:=yh ((Below.refl w.heap.size w).alloc (Nat.le_refl _) (.cells #[.slice A x.body.length c,.int .i64 (x.safe:Int)] 85))
 have HCL:=yh (zGy A x.body.length c x.body hxl hA (w.alloc (.cells #[.slice A x.body.length c,.int .i64 (x.safe:Int)] 85)) (((zAD.of_own ho).below HB1.out).more HB1.out.size))
 have hnew:=zAE w (.cells #[.slice A x.body.length c,.int .i64 (x.safe:Int)] 85)
 have n0:=zAA (i:=0) hnew rfl
 obtain ⟨n,hn⟩:∃ n,n=x.body.length:=⟨_,rfl⟩
 have HNN:=yh hn
 rw [← hn] at hlk HB1 HCL n0 ⊢
 clear h hf hF ho hA hnew hn hxl
 go_enter Tryz.func19,Tryz.ntmps19
 go_wp2_with fail
 refine HCL.out.mono ?_
 rintro e w2 ⟨v,rfl,ho2,hb2⟩
 obtain ⟨A2,c2,rfl,hA2⟩:=zAL ho2
 have HO2:=yh (zAT ho2 HB1.out.size)
 have HB2:=yh (HB1.out.trans (hb2.mono HB1.out.size))
 clear ho2 hb2
 go_wp2
 go_ret2
 exact ⟨⟨A2,c2,rfl,hA2,HO2.out⟩,HB2.out⟩
theorem zOU (p b:Nat) (down:Bool) (f g:Bool×Int) (n:Int) (w:World) (h:zAM w p b down f g) :
  Calls Tryz.prog 10 #[.pointer (some ⟨p,0,none⟩),.int .i64 n] w fun e w' =>e=.returned (.tuple #[])∧zAM w' p b down (zCn n) g∧Turn (fun k =>k=p) w w':=by
 obtain ⟨f1,f2⟩:=f
 obtain ⟨g1,g2⟩:=g
 have HX:=yh h
 have HAS:=yh (zMb n)
 clear h
 go_enter Tryz.func10,Tryz.ntmps10
 go_wp2_with fail
 refine (HAS.out _).mono ?_
 rintro e w2 ⟨rfl,hb2⟩
 have HB2:=yh hb2
 have hx2:=HX.out.below hb2
 unfold zAM at hx2
 have c0:=zAA (i:=2) hx2 rfl
 have c1:=zAA (i:=3) hx2 rfl
 have fz0:w2.frozen? ⟨p,2,none⟩=false:=zAC hx2
 have fz1:w2.frozen? ⟨p,3,none⟩=false:=zAC hx2
 have HS1:=yh (zAo hx2 (i:=2) (.bool (zCn n).1))
 have HS2:=yh (zAo HS1.out.1 (i:=3) (.int .i64 (zCn n).2))
 clear hb2 hx2
 go_wp2
 go_end0
 exact ⟨rfl,HS2.out.1,((Turn.of_below HB2.out).grown HS1.out.2 (fun i hi _ =>(Option.some.inj hi).symm)).grown HS2.out.2 (fun i hi _ =>(Option.some.inj hi).symm)⟩
end Go.Proofs.YtekchkfjgofnkaaGreatDoor
