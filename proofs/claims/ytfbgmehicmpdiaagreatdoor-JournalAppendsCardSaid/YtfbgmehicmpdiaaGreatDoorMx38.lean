/- Texts of one proof. -/
import Derived.Test.YtfbgmehicmpdiaaGreatDoorMx37
set_option maxRecDepth 100000
set_option maxHeartbeats 8000000
namespace Go.Proofs.YtfbgmehicmpdiaaGreatDoor
open Go.RowKit Go.Maps Go.ChangeMaps Go.WideMaps Go.Sort
theorem zMc (p b:Nat) (f g:Bool×Int) (s:List UInt8) (w:World) (hx:zAL w p b true f g) :
  Calls Tryz.prog 18 #[.pointer (some ⟨p,0,none⟩),.string (tx s)] w fun e w' =>e=.returned (.int .i64 7)∧Below w.heap.size w w':=by
 have z0:(w.alloc (.cells #[.pointer (some ⟨p,0,none⟩)] 26)).heap.size=w.heap.size+1:=by simp only [World.size_alloc]
 have z1:((w.alloc (.cells #[.pointer (some ⟨p,0,none⟩)] 26)).alloc (.cells #[.string (tx s)] 9)).heap.size=w.heap.size+2:=by simp only [World.size_alloc,Nat.add_assoc,Nat.reduceAdd]
 have HA:Hid (Below w.heap.size w ((w.alloc (.cells #[.pointer (some ⟨p,0,none⟩)] 26)).alloc (.cells #[.string (tx s)] 9))):=((Below.refl _ _).alloc (by first | exact Nat.le_refl _ | (rw [z0];omega)) _).alloc (by first | exact Nat.le_refl _ | (rw [z0];omega)) _
 have e0:=zAD w (.cells #[.pointer (some ⟨p,0,none⟩)] 26)
 have e0:=(Below.heap_alloc (w.alloc (.cells #[.pointer (some ⟨p,0,none⟩)] 26)) (.cells #[.string (tx s)] 9) _ (by rw [z0];omega)).trans e0
 have e1:=zAD (w.alloc (.cells #[.pointer (some ⟨p,0,none⟩)] 26)) (.cells #[.string (tx s)] 9)
 rw [z0] at e1
 obtain ⟨w1,hw1⟩:∃ x,x=((w.alloc (.cells #[.pointer (some ⟨p,0,none⟩)] 26)).alloc (.cells #[.string (tx s)] 9)):=⟨_,rfl⟩
 rw [← hw1] at HA e0 e1
 have hx1:=hx.below HA.out
 have HFD:=yh (zDZ p b f g s w1 hx1)
 have q0:=zAA (i:=0) e0 rfl
 have q1:=zAA (i:=0) e1 rfl
 rw [hw1] at q0 q1
 have HW1:=yh hw1
 rw [hw1] at HFD
 clear hx hx1 e0 e1 z0 z1 hw1
 go_enter Tryz.func18,Tryz.ntmps18
 go_wp2_with fail
 refine HFD.out.mono ?_
 rintro e w2 ⟨rfl,hb2⟩
 rw [← HW1.out] at hb2
 have HB2:=yh (HA.out.trans (hb2.mono HA.out.size))
 clear hb2
 go_wp2
 go_ret
 exact ⟨rfl,HB2.out.alloc HB2.out.size _⟩
theorem zMd (p b N:Nat) (f g:Bool×Int) (s:List UInt8) (hs:s.length≤maxLen) (F:List UInt8→Option Value) (hF:F s=none) (w:World) (hx:zAL w p b false f g) (hm:TMap w b N F) :
  Calls Tryz.prog 18 #[.pointer (some ⟨p,0,none⟩),.string (tx s)] w fun e w' =>e=.returned (.int .i64 6)∧Below w.heap.size w w':=by
 have z0:(w.alloc (.cells #[.pointer (some ⟨p,0,none⟩)] 26)).heap.size=w.heap.size+1:=by simp only [World.size_alloc]
 have z1:((w.alloc (.cells #[.pointer (some ⟨p,0,none⟩)] 26)).alloc (.cells #[.string (tx s)] 9)).heap.size=w.heap.size+2:=by simp only [World.size_alloc,Nat.add_assoc,Nat.reduceAdd]
 have HA:Hid (Below w.heap.size w ((w.alloc (.cells #[.pointer (some ⟨p,0,none⟩)] 26)).alloc (.cells #[.string (tx s)] 9))):=((Below.refl _ _).alloc (by first | exact Nat.le_refl _ | (rw [z0];omega)) _).alloc (by first | exact Nat.le_refl _ | (rw [z0];omega)) _
 have e0:=zAD w (.cells #[.pointer (some ⟨p,0,none⟩)] 26)
 have e0:=(Below.heap_alloc (w.alloc (.cells #[.pointer (some ⟨p,0,none⟩)] 26)) (.cells #[.string (tx s)] 9) _ (by rw [z0];omega)).trans e0
 have e1:=zAD (w.alloc (.cells #[.pointer (some ⟨p,0,none⟩)] 26)) (.cells #[.string (tx s)] 9)
 rw [z0] at e1
 obtain ⟨w1,hw1⟩:∃ x,x=((w.alloc (.cells #[.pointer (some ⟨p,0,none⟩)] 26)).alloc (.cells #[.string (tx s)] 9)):=⟨_,rfl⟩
 rw [← hw1] at HA e0 e1
 have hx1:=hx.below HA.out
 have hm1:=hm.below HA.out
 have HFD:=yh (zDa p b N f g F s hs hF w1 hx1 hm1)
 have q0:=zAA (i:=0) e0 rfl
 have q1:=zAA (i:=0) e1 rfl
 rw [hw1] at q0 q1
 have HW1:=yh hw1
 rw [hw1] at HFD
 clear hx hx1 hm hm1 e0 e1 z0 z1 hw1
 go_enter Tryz.func18,Tryz.ntmps18
 go_wp2_with fail
 refine HFD.out.mono ?_
 rintro e w2 ⟨rfl,hb2⟩
 rw [← HW1.out] at hb2
 have HB2:=yh (HA.out.trans (hb2.mono HA.out.size))
 clear hb2
 go_wp2
 go_ret
 exact ⟨rfl,HB2.out.alloc HB2.out.size _⟩
theorem zOG (p b N base:Nat) (f g:Bool×Int) (hfi:zAX f) (hgi:zAX g) (fl:List UInt8→Option Fl) (F:List UInt8→Option Value) (s:List UInt8) (hs:s.length≤maxLen) (x:Fl) (hfx:fl s=some x) (hN:N<1000000) (w:World)
  (hx:zAL w p b false f g) (hf:zAa w base b N fl F) :
  Calls Tryz.prog 18 #[.pointer (some ⟨p,0,none⟩),.string (tx s)] w fun e w' =>e=.returned (.int .i64 (zAn f g)) ∧
   ∃ N' F',zFb w w' base p b N N' (zAb g) (zAH f) (zAH g) (zCH (zAm f g false) (zAZ fl s (some ⟨x.body,x.body.length⟩)) fl) F F':=by
 have hpl:=hx.lt
 obtain ⟨A,c,hF,hA,ho⟩:=hf.2.2.1 s x hfx
 have z0:(w.alloc (.cells #[.pointer (some ⟨p,0,none⟩)] 26)).heap.size=w.heap.size+1:=by simp only [World.size_alloc]
 have z1:((w.alloc (.cells #[.pointer (some ⟨p,0,none⟩)] 26)).alloc (.cells #[.string (tx s)] 9)).heap.size=w.heap.size+2:=by simp only [World.size_alloc,Nat.add_assoc,Nat.reduceAdd]
 have HA:Hid (Below w.heap.size w ((w.alloc (.cells #[.pointer (some ⟨p,0,none⟩)] 26)).alloc (.cells #[.string (tx s)] 9))):=((Below.refl _ _).alloc (by first | exact Nat.le_refl _ | (rw [z0];omega)) _).alloc (by first | exact Nat.le_refl _ | (rw [z0];omega)) _
 have e0:=zAD w (.cells #[.pointer (some ⟨p,0,none⟩)] 26)
 have e0:=(Below.heap_alloc (w.alloc (.cells #[.pointer (some ⟨p,0,none⟩)] 26)) (.cells #[.string (tx s)] 9) _ (by rw [z0];omega)).trans e0
 have e1:=zAD (w.alloc (.cells #[.pointer (some ⟨p,0,none⟩)] 26)) (.cells #[.string (tx s)] 9)
 rw [z0] at e1
 obtain ⟨w1,hw1⟩:∃ x,x=((w.alloc (.cells #[.pointer (some ⟨p,0,none⟩)] 26)).alloc (.cells #[.string (tx s)] 9)):=⟨_,rfl⟩
 rw [← hw1] at HA e0 e1
 have hx1:=hx.below HA.out
 have hf1:=hf.below HA.out
 have HFD:=yh (zCv p b N f g F s hs A x.body.length c x.safe hF w1 hx1 hf1.1)
 have QF:Hid (∀ v,Below w1.heap.size w1 v→v.cell? ⟨w.heap.size,0,none⟩=some (.pointer (some ⟨p,0,none⟩))):=fun v hv =>zAA (i:=0) ((hv.block _ (zAJ e0)).trans e0) rfl
 have HACT:=yh (fun (w2:World) (hb2:Below w1.heap.size w1 w2) =>zEL p b false f g hfi hgi false 42 (enters_of Tryz.func42 (by kernel_rfl) rfl) #[.pointer (some ⟨w2.heap.size,0,none⟩),.pointer (some ⟨w.heap.size,0,none⟩),.pointer (some ⟨w.heap.size+1,0,none⟩)] (w2.alloc (.cells #[.slice A x.body.length c,.int .i64 (x.safe:Int)] 62)) ((hx1.below hb2).below ((Below.refl _ _).alloc (Nat.le_refl _) _))
  (fun W W' =>(∃ F',zAa W' base b (N+1) (zAZ fl s (some ⟨x.body,x.body.length⟩)) F'∧∀ j,zAS p b F' j→zAS p b F j∨W.heap.size≤j)∧W'.heap[p]? = W.heap[p]?∧Turn (fun k =>zAS p b F k∨k=w2.heap.size) W W')
  (fun d W hW hg =>by
   have hb3:Below w1.heap.size w1 (w2.alloc (.cells #[.slice A x.body.length c,.int .i64 (x.safe:Int)] 62)):=hb2.alloc hb2.size _
   have hx3:=hx1.below hb3
   have hf3:=hf1.below hb3
   have hsz:=HA.out.size
   have hsz3:=hb3.size
   have hgs:=hg.size
   have hb2s:=hb2.size
   have hfW:=zBN hf3 hx3 hg
   have hbox:=zAD w2 (.cells #[.slice A x.body.length c,.int .i64 (x.safe:Int)] 62)
   refine (zPm p b N base w2.heap.size w.heap.size (w.heap.size+1) d _ _ fl F s hs x hfx A x.body.length c x.safe hN W hW hfW rfl rfl hF ?_ ?_ ?_).mono ?_
   ·exact (hg.block _ (zAJ hbox) (fun e =>by have:=Option.some.inj e;omega)).trans hbox
   ·exact (hg.block _ (Nat.lt_of_lt_of_le (zAJ e0) hsz3) (fun e =>by have:=Option.some.inj e;omega)).trans ((hb3.block _ (zAJ e0)).trans e0)
   ·exact (hg.block _ (Nat.lt_of_lt_of_le (zAJ e1) hsz3) (fun e =>by have:=Option.some.inj e;omega)).trans ((hb3.block _ (zAJ e1)).trans e1)
   ·rintro e W' ⟨he,F',hF',hx',ht',hsub⟩
    exact ⟨he,⟨F',hF',hsub⟩,hx'.trans hW.symm,ht'⟩))
 have q0:=zAA (i:=0) e0 rfl
 have q1:=zAA (i:=0) e1 rfl
 rw [hw1] at q0 q1
 have HW1:=yh hw1
 rw [hw1] at HFD
 have HX1:=yh hx1
 have HF1:=yh hf1
 have HBS:Hid (w.heap.size≤w1.heap.size):=HA.out.size
 obtain ⟨n,hn⟩:∃ n,n=x.body.length:=⟨_,rfl⟩
 have HNN:=yh hn
 rw [← hn] at HFD HACT
 clear hx hf ho hx1 hf1 e0 e1 z0 z1 hw1 hF hn hA
 go_enter Tryz.func18,Tryz.ntmps18
 go_wp2_with fail
 refine HFD.out.mono ?_
 rintro e w2 ⟨rfl,hb2⟩
 rw [← HW1.out] at hb2
 have HB2:=yh hb2
 have hb3:Below w1.heap.size w1 (w2.alloc (.cells #[.slice A n c,.int .i64 (x.safe:Int)] 62)):=hb2.alloc hb2.size _
 have HB3:=yh hb3
 have hz4:=QF.out _ hb3
 have HACT2:=yh (HACT.out w2 hb2)
 clear hb2 hb3 HACT
 go_wp2_with fail
 refine HACT2.out.mono ?_
 rintro e w5 ⟨W,hbx,hg,rfl,hrun,hno⟩
 have HBX:=yh hbx
 have HG:=yh hg
 have HRUN:=yh hrun
 have HNO:=yh hno
 clear hbx hg hrun hno
 go_wp2
 go_ret
 refine ⟨rfl,?_⟩
 have hbw:Below w.heap.size w (w2.alloc (.cells #[.slice A n c,.int .i64 (x.safe:Int)] 62)):=HA.out.trans (HB3.out.mono HA.out.size)
 have htw:Turn (zAS p b F) w W:=(Turn.of_below hbw).grown HG.out (fun i hi _ =>.inl (Option.some.inj hi).symm)
 have hbx2:zAL W p b (zAb g) (zAH f) (zAH g):=by have h:=HBX.out;rw [Bool.false_or] at h;exact h
 cases hru:zAm f g false with
 | true =>
  obtain ⟨⟨F',hF',hsub⟩,hp',ht'⟩:=HRUN.out hru
  refine ⟨N+1,F',hp'.trans hbx2,(by first | exact hF' | (rw [HNN.out] at hF';exact hF')),by omega,htw.trans ht' (fun i hi h =>h.resolve_right (fun e =>by have:=HB2.out.size;have:=HBS.out;omega)),fun j hj =>?_⟩
  rcases hsub j hj with h | h
  ·exact .inl h
  ·exact .inr (by have:=hbw.size;have:=HG.out.size;omega)
 | false =>
  have e:=HNO.out hru
  subst e
  exact ⟨N,F,hbx2,zBN (HF1.out.below HB3.out) (HX1.out.below HB3.out) HG.out,by omega,htw,fun j hj =>.inl hj⟩
theorem zJR (p b:Nat) (f g:Bool×Int) (r s:List UInt8) (w:World) (hx:zAL w p b true f g) :
  Calls Tryz.prog 32 #[.pointer (some ⟨p,0,none⟩),.string (tx r),.string (tx s)] w fun e w' =>e=.returned (.int .i64 7)∧Below w.heap.size w w':=by
 have z0:(w.alloc (.cells #[.pointer (some ⟨p,0,none⟩)] 26)).heap.size=w.heap.size+1:=by simp only [World.size_alloc]
 have z1:((w.alloc (.cells #[.pointer (some ⟨p,0,none⟩)] 26)).alloc (.cells #[.string (tx r)] 9)).heap.size=w.heap.size+2:=by simp only [World.size_alloc,Nat.add_assoc,Nat.reduceAdd]
 have z2:(((w.alloc (.cells #[.pointer (some ⟨p,0,none⟩)] 26)).alloc (.cells #[.string (tx r)] 9)).alloc (.cells #[.string (tx s)] 9)).heap.size=w.heap.size+3:=by simp only [World.size_alloc,Nat.add_assoc,Nat.reduceAdd]
 have HA:Hid (Below w.heap.size w (((w.alloc (.cells #[.pointer (some ⟨p,0,none⟩)] 26)).alloc (.cells #[.string (tx r)] 9)).alloc (.cells #[.string (tx s)] 9))):=(((Below.refl _ _).alloc (by first | exact Nat.le_refl _ | (rw [z0];omega)) _).alloc (by first | exact Nat.le_refl _ | (rw [z0];omega)) _).alloc (by first | exact Nat.le_refl _ | (rw [z1];omega)) _
 have e0:=zAD w (.cells #[.pointer (some ⟨p,0,none⟩)] 26)
 have e0:=(Below.heap_alloc (w.alloc (.cells #[.pointer (some ⟨p,0,none⟩)] 26)) (.cells #[.string (tx r)] 9) _ (by rw [z0];omega)).trans e0
 have e0:=(Below.heap_alloc ((w.alloc (.cells #[.pointer (some ⟨p,0,none⟩)] 26)).alloc (.cells #[.string (tx r)] 9)) (.cells #[.string (tx s)] 9) _ (by rw [z1];omega)).trans e0
 have e1:=zAD (w.alloc (.cells #[.pointer (some ⟨p,0,none⟩)] 26)) (.cells #[.string (tx r)] 9)
 rw [z0] at e1
 have e1:=(Below.heap_alloc ((w.alloc (.cells #[.pointer (some ⟨p,0,none⟩)] 26)).alloc (.cells #[.string (tx r)] 9)) (.cells #[.string (tx s)] 9) _ (by rw [z1];omega)).trans e1
 have e2:=zAD ((w.alloc (.cells #[.pointer (some ⟨p,0,none⟩)] 26)).alloc (.cells #[.string (tx r)] 9)) (.cells #[.string (tx s)] 9)
 rw [z1] at e2
 obtain ⟨w1,hw1⟩:∃ x,x=(((w.alloc (.cells #[.pointer (some ⟨p,0,none⟩)] 26)).alloc (.cells #[.string (tx r)] 9)).alloc (.cells #[.string (tx s)] 9)):=⟨_,rfl⟩
 rw [← hw1] at HA e0 e1 e2
 have hx1:=hx.below HA.out
 have HFD:=yh (zDZ p b f g r w1 hx1)
 have q0:=zAA (i:=0) e0 rfl
 have q1:=zAA (i:=0) e1 rfl
 have q2:=zAA (i:=0) e2 rfl
 rw [hw1] at q0 q1 q2
 have HW1:=yh hw1
 rw [hw1] at HFD
 clear hx hx1 e0 e1 e2 z0 z1 z2 hw1
 go_enter Tryz.func32,Tryz.ntmps32
 go_wp2_with fail
 refine HFD.out.mono ?_
 rintro e w2 ⟨rfl,hb2⟩
 rw [← HW1.out] at hb2
 have HB2:=yh (HA.out.trans (hb2.mono HA.out.size))
 clear hb2
 go_wp2
 go_ret
 exact ⟨rfl,HB2.out.alloc HB2.out.size _⟩
theorem zJS (p b N:Nat) (f g:Bool×Int) (r s:List UInt8) (hr:r.length≤maxLen) (F:List UInt8→Option Value) (hF:F r=none) (w:World) (hx:zAL w p b false f g) (hm:TMap w b N F) :
  Calls Tryz.prog 32 #[.pointer (some ⟨p,0,none⟩),.string (tx r),.string (tx s)] w fun e w' =>e=.returned (.int .i64 6)∧Below w.heap.size w w':=by
 have z0:(w.alloc (.cells #[.pointer (some ⟨p,0,none⟩)] 26)).heap.size=w.heap.size+1:=by simp only [World.size_alloc]
 have z1:((w.alloc (.cells #[.pointer (some ⟨p,0,none⟩)] 26)).alloc (.cells #[.string (tx r)] 9)).heap.size=w.heap.size+2:=by simp only [World.size_alloc,Nat.add_assoc,Nat.reduceAdd]
 have z2:(((w.alloc (.cells #[.pointer (some ⟨p,0,none⟩)] 26)).alloc (.cells #[.string (tx r)] 9)).alloc (.cells #[.string (tx s)] 9)).heap.size=w.heap.size+3:=by simp only [World.size_alloc,Nat.add_assoc,Nat.reduceAdd]
 have HA:Hid (Below w.heap.size w (((w.alloc (.cells #[.pointer (some ⟨p,0,none⟩)] 26)).alloc (.cells #[.string (tx r)] 9)).alloc (.cells #[.string (tx s)] 9))):=(((Below.refl _ _).alloc (by first | exact Nat.le_refl _ | (rw [z0];omega)) _).alloc (by first | exact Nat.le_refl _ | (rw [z0];omega)) _).alloc (by first | exact Nat.le_refl _ | (rw [z1];omega)) _
 have e0:=zAD w (.cells #[.pointer (some ⟨p,0,none⟩)] 26)
 have e0:=(Below.heap_alloc (w.alloc (.cells #[.pointer (some ⟨p,0,none⟩)] 26)) (.cells #[.string (tx r)] 9) _ (by rw [z0];omega)).trans e0
 have e0:=(Below.heap_alloc ((w.alloc (.cells #[.pointer (some ⟨p,0,none⟩)] 26)).alloc (.cells #[.string (tx r)] 9)) (.cells #[.string (tx s)] 9) _ (by rw [z1];omega)).trans e0
 have e1:=zAD (w.alloc (.cells #[.pointer (some ⟨p,0,none⟩)] 26)) (.cells #[.string (tx r)] 9)
 rw [z0] at e1
 have e1:=(Below.heap_alloc ((w.alloc (.cells #[.pointer (some ⟨p,0,none⟩)] 26)).alloc (.cells #[.string (tx r)] 9)) (.cells #[.string (tx s)] 9) _ (by rw [z1];omega)).trans e1
 have e2:=zAD ((w.alloc (.cells #[.pointer (some ⟨p,0,none⟩)] 26)).alloc (.cells #[.string (tx r)] 9)) (.cells #[.string (tx s)] 9)
 rw [z1] at e2
 obtain ⟨w1,hw1⟩:∃ x,x=(((w.alloc (.cells #[.pointer (some ⟨p,0,none⟩)] 26)).alloc (.cells #[.string (tx r)] 9)).alloc (.cells #[.string (tx s)] 9)):=⟨_,rfl⟩
 rw [← hw1] at HA e0 e1 e2
 have hx1:=hx.below HA.out
 have hm1:=hm.below HA.out
 have HFD:=yh (zDa p b N f g F r hr hF w1 hx1 hm1)
 have q0:=zAA (i:=0) e0 rfl
 have q1:=zAA (i:=0) e1 rfl
 have q2:=zAA (i:=0) e2 rfl
 rw [hw1] at q0 q1 q2
 have HW1:=yh hw1
 rw [hw1] at HFD
 clear hx hx1 hm hm1 e0 e1 e2 z0 z1 z2 hw1
 go_enter Tryz.func32,Tryz.ntmps32
 go_wp2_with fail
 refine HFD.out.mono ?_
 rintro e w2 ⟨rfl,hb2⟩
 rw [← HW1.out] at hb2
 have HB2:=yh (HA.out.trans (hb2.mono HA.out.size))
 clear hb2
 go_wp2
 go_ret
 exact ⟨rfl,HB2.out.alloc HB2.out.size _⟩
theorem zKr (p b N base:Nat) (f g:Bool×Int) (hfi:zAX f) (hgi:zAX g) (fl:List UInt8→Option Fl) (F:List UInt8→Option Value) (r s:List UInt8) (hr:r.length≤maxLen) (hs:s.length≤maxLen) (x:Fl) (hfx:fl r=some x) (hN:N<1000000) (w:World)
  (hx:zAL w p b false f g) (hf:zAa w base b N fl F) :
  Calls Tryz.prog 32 #[.pointer (some ⟨p,0,none⟩),.string (tx r),.string (tx s)] w fun e w' =>e=.returned (.int .i64 (zAn f g)) ∧
   ∃ N' F',zFb w w' base p b N N' (zAb g) (zAH f) (zAH g) (zCH (zAm f g false) (zAZ (zAZ fl r none) s (some x)) fl) F F':=by
 have hpl:=hx.lt
 obtain ⟨A,c,hF,hA,ho⟩:=hf.2.2.1 r x hfx
 have z0:(w.alloc (.cells #[.pointer (some ⟨p,0,none⟩)] 26)).heap.size=w.heap.size+1:=by simp only [World.size_alloc]
 have z1:((w.alloc (.cells #[.pointer (some ⟨p,0,none⟩)] 26)).alloc (.cells #[.string (tx r)] 9)).heap.size=w.heap.size+2:=by simp only [World.size_alloc,Nat.add_assoc,Nat.reduceAdd]
 have z2:(((w.alloc (.cells #[.pointer (some ⟨p,0,none⟩)] 26)).alloc (.cells #[.string (tx r)] 9)).alloc (.cells #[.string (tx s)] 9)).heap.size=w.heap.size+3:=by simp only [World.size_alloc,Nat.add_assoc,Nat.reduceAdd]
 have HA:Hid (Below w.heap.size w (((w.alloc (.cells #[.pointer (some ⟨p,0,none⟩)] 26)).alloc (.cells #[.string (tx r)] 9)).alloc (.cells #[.string (tx s)] 9))):=(((Below.refl _ _).alloc (by first | exact Nat.le_refl _ | (rw [z0];omega)) _).alloc (by first | exact Nat.le_refl _ | (rw [z0];omega)) _).alloc (by first | exact Nat.le_refl _ | (rw [z1];omega)) _
 have e0:=zAD w (.cells #[.pointer (some ⟨p,0,none⟩)] 26)
 have e0:=(Below.heap_alloc (w.alloc (.cells #[.pointer (some ⟨p,0,none⟩)] 26)) (.cells #[.string (tx r)] 9) _ (by rw [z0];omega)).trans e0
 have e0:=(Below.heap_alloc ((w.alloc (.cells #[.pointer (some ⟨p,0,none⟩)] 26)).alloc (.cells #[.string (tx r)] 9)) (.cells #[.string (tx s)] 9) _ (by rw [z1];omega)).trans e0
 have e1:=zAD (w.alloc (.cells #[.pointer (some ⟨p,0,none⟩)] 26)) (.cells #[.string (tx r)] 9)
 rw [z0] at e1
 have e1:=(Below.heap_alloc ((w.alloc (.cells #[.pointer (some ⟨p,0,none⟩)] 26)).alloc (.cells #[.string (tx r)] 9)) (.cells #[.string (tx s)] 9) _ (by rw [z1];omega)).trans e1
 have e2:=zAD ((w.alloc (.cells #[.pointer (some ⟨p,0,none⟩)] 26)).alloc (.cells #[.string (tx r)] 9)) (.cells #[.string (tx s)] 9)
 rw [z1] at e2
 obtain ⟨w1,hw1⟩:∃ x,x=(((w.alloc (.cells #[.pointer (some ⟨p,0,none⟩)] 26)).alloc (.cells #[.string (tx r)] 9)).alloc (.cells #[.string (tx s)] 9)):=⟨_,rfl⟩
 rw [← hw1] at HA e0 e1 e2
 have hx1:=hx.below HA.out
 have hf1:=hf.below HA.out
 have HFD:=yh (zCv p b N f g F r hr A x.body.length c x.safe hF w1 hx1 hf1.1)
 have QF:Hid (∀ v,Below w1.heap.size w1 v→v.cell? ⟨w.heap.size,0,none⟩=some (.pointer (some ⟨p,0,none⟩))):=fun v hv =>zAA (i:=0) ((hv.block _ (zAJ e0)).trans e0) rfl
 have HACT:=yh (fun (w2:World) (hb2:Below w1.heap.size w1 w2) =>zEL p b false f g hfi hgi false 50 (enters_of Tryz.func50 (by kernel_rfl) rfl) #[.pointer (some ⟨w.heap.size,0,none⟩),.pointer (some ⟨w.heap.size+1,0,none⟩),.pointer (some ⟨w2.heap.size,0,none⟩),.pointer (some ⟨w.heap.size+2,0,none⟩)] (w2.alloc (.cells #[.slice A x.body.length c,.int .i64 (x.safe:Int)] 62)) ((hx1.below hb2).below ((Below.refl _ _).alloc (Nat.le_refl _) _))
  (fun W W' =>(∃ F',zAa W' base b (N+1) (zAZ (zAZ fl r none) s (some x)) F'∧∀ j,zAS p b F' j→zAS p b F j∨W.heap.size≤j)∧W'.heap[p]? = W.heap[p]?∧Turn (zAS p b F) W W')
  (fun d W hW hg =>by
   have hb3:Below w1.heap.size w1 (w2.alloc (.cells #[.slice A x.body.length c,.int .i64 (x.safe:Int)] 62)):=hb2.alloc hb2.size _
   have hx3:=hx1.below hb3
   have hf3:=hf1.below hb3
   have hsz:=HA.out.size
   have hsz3:=hb3.size
   have hgs:=hg.size
   have hb2s:=hb2.size
   have hfW:=zBN hf3 hx3 hg
   have hbox:=zAD w2 (.cells #[.slice A x.body.length c,.int .i64 (x.safe:Int)] 62)
   refine (zMP p b N base w2.heap.size w.heap.size (w.heap.size+1) (w.heap.size+2) d _ _ fl F r s hr hs x hfx A x.body.length c x.safe hN W hW hfW rfl rfl hF ?_ ?_ ?_ ?_).mono ?_
   ·exact (hg.block _ (zAJ hbox) (fun e =>by have:=Option.some.inj e;omega)).trans hbox
   ·exact (hg.block _ (Nat.lt_of_lt_of_le (zAJ e0) hsz3) (fun e =>by have:=Option.some.inj e;omega)).trans ((hb3.block _ (zAJ e0)).trans e0)
   ·exact (hg.block _ (Nat.lt_of_lt_of_le (zAJ e1) hsz3) (fun e =>by have:=Option.some.inj e;omega)).trans ((hb3.block _ (zAJ e1)).trans e1)
   ·exact (hg.block _ (Nat.lt_of_lt_of_le (zAJ e2) hsz3) (fun e =>by have:=Option.some.inj e;omega)).trans ((hb3.block _ (zAJ e2)).trans e2)
   ·rintro e W' ⟨he,F',hF',hx',ht',hsub⟩
    exact ⟨he,⟨F',hF',hsub⟩,hx'.trans hW.symm,ht'⟩))
 have q0:=zAA (i:=0) e0 rfl
 have q1:=zAA (i:=0) e1 rfl
 have q2:=zAA (i:=0) e2 rfl
 rw [hw1] at q0 q1 q2
 have HW1:=yh hw1
 rw [hw1] at HFD
 have HX1:=yh hx1
 have HF1:=yh hf1
 have HBS:Hid (w.heap.size≤w1.heap.size):=HA.out.size
 obtain ⟨n,hn⟩:∃ n,n=x.body.length:=⟨_,rfl⟩
 have HNN:=yh hn
 rw [← hn] at HFD HACT
 clear hx hf ho hx1 hf1 e0 e1 e2 z0 z1 z2 hw1 hF hn hA
 go_enter Tryz.func32,Tryz.ntmps32
 go_wp2_with fail
 refine HFD.out.mono ?_
 rintro e w2 ⟨rfl,hb2⟩
 rw [← HW1.out] at hb2
 have HB2:=yh hb2
 have hb3:Below w1.heap.size w1 (w2.alloc (.cells #[.slice A n c,.int .i64 (x.safe:Int)] 62)):=hb2.alloc hb2.size _
 have HB3:=yh hb3
 have hz4:=QF.out _ hb3
 have HACT2:=yh (HACT.out w2 hb2)
 clear hb2 hb3 HACT
 go_wp2_with fail
 refine HACT2.out.mono ?_
 rintro e w5 ⟨W,hbx,hg,rfl,hrun,hno⟩
 have HBX:=yh hbx
 have HG:=yh hg
 have HRUN:=yh hrun
 have HNO:=yh hno
 clear hbx hg hrun hno
 go_wp2
 go_ret
 refine ⟨rfl,?_⟩
 have hbw:Below w.heap.size w (w2.alloc (.cells #[.slice A n c,.int .i64 (x.safe:Int)] 62)):=HA.out.trans (HB3.out.mono HA.out.size)
 have htw:Turn (zAS p b F) w W:=(Turn.of_below hbw).grown HG.out (fun i hi _ =>.inl (Option.some.inj hi).symm)
 have hbx2:zAL W p b (zAb g) (zAH f) (zAH g):=by have h:=HBX.out;rw [Bool.false_or] at h;exact h
 cases hru:zAm f g false with
 | true =>
  obtain ⟨⟨F',hF',hsub⟩,hp',ht'⟩:=HRUN.out hru
  refine ⟨N+1,F',hp'.trans hbx2,(by first | exact hF' | (rw [HNN.out] at hF';exact hF')),by omega,htw.trans ht' (fun i hi h =>h),fun j hj =>?_⟩
  rcases hsub j hj with h | h
  ·exact .inl h
  ·exact .inr (by have:=hbw.size;have:=HG.out.size;omega)
 | false =>
  have e:=HNO.out hru
  subst e
  exact ⟨N,F,hbx2,zBN (HF1.out.below HB3.out) (HX1.out.below HB3.out) HG.out,by omega,htw,fun j hj =>.inl hj⟩
theorem zJP (p b:Nat) (f g:Bool×Int) (s:List UInt8) (w:World) (hx:zAL w p b true f g) :
  Calls Tryz.prog 49 #[.pointer (some ⟨p,0,none⟩),.string (tx s)] w fun e w' =>e=.returned (.int .i64 7)∧Below w.heap.size w w':=by
 have z0:(w.alloc (.cells #[.pointer (some ⟨p,0,none⟩)] 26)).heap.size=w.heap.size+1:=by simp only [World.size_alloc]
 have z1:((w.alloc (.cells #[.pointer (some ⟨p,0,none⟩)] 26)).alloc (.cells #[.string (tx s)] 9)).heap.size=w.heap.size+2:=by simp only [World.size_alloc,Nat.add_assoc,Nat.reduceAdd]
 have HA:Hid (Below w.heap.size w ((w.alloc (.cells #[.pointer (some ⟨p,0,none⟩)] 26)).alloc (.cells #[.string (tx s)] 9))):=((Below.refl _ _).alloc (by first | exact Nat.le_refl _ | (rw [z0];omega)) _).alloc (by first | exact Nat.le_refl _ | (rw [z0];omega)) _
 have e0:=zAD w (.cells #[.pointer (some ⟨p,0,none⟩)] 26)
 have e0:=(Below.heap_alloc (w.alloc (.cells #[.pointer (some ⟨p,0,none⟩)] 26)) (.cells #[.string (tx s)] 9) _ (by rw [z0];omega)).trans e0
 have e1:=zAD (w.alloc (.cells #[.pointer (some ⟨p,0,none⟩)] 26)) (.cells #[.string (tx s)] 9)
 rw [z0] at e1
 obtain ⟨w1,hw1⟩:∃ x,x=((w.alloc (.cells #[.pointer (some ⟨p,0,none⟩)] 26)).alloc (.cells #[.string (tx s)] 9)):=⟨_,rfl⟩
 rw [← hw1] at HA e0 e1
 have hx1:=hx.below HA.out
 have HFD:=yh (zDZ p b f g s w1 hx1)
 have q0:=zAA (i:=0) e0 rfl
 have q1:=zAA (i:=0) e1 rfl
 rw [hw1] at q0 q1
 have HW1:=yh hw1
 rw [hw1] at HFD
 clear hx hx1 e0 e1 z0 z1 hw1
 go_enter Tryz.func49,Tryz.ntmps49
 go_wp2_with fail
 refine HFD.out.mono ?_
 rintro e w2 ⟨rfl,hb2⟩
 rw [← HW1.out] at hb2
 have HB2:=yh (HA.out.trans (hb2.mono HA.out.size))
 clear hb2
 go_wp2
 go_ret
 exact ⟨rfl,HB2.out.alloc HB2.out.size _⟩
theorem zJQ (p b N:Nat) (f g:Bool×Int) (s:List UInt8) (hs:s.length≤maxLen) (F:List UInt8→Option Value) (hF:F s=none) (w:World) (hx:zAL w p b false f g) (hm:TMap w b N F) :
  Calls Tryz.prog 49 #[.pointer (some ⟨p,0,none⟩),.string (tx s)] w fun e w' =>e=.returned (.int .i64 6)∧Below w.heap.size w w':=by
 have z0:(w.alloc (.cells #[.pointer (some ⟨p,0,none⟩)] 26)).heap.size=w.heap.size+1:=by simp only [World.size_alloc]
 have z1:((w.alloc (.cells #[.pointer (some ⟨p,0,none⟩)] 26)).alloc (.cells #[.string (tx s)] 9)).heap.size=w.heap.size+2:=by simp only [World.size_alloc,Nat.add_assoc,Nat.reduceAdd]
 have HA:Hid (Below w.heap.size w ((w.alloc (.cells #[.pointer (some ⟨p,0,none⟩)] 26)).alloc (.cells #[.string (tx s)] 9))):=((Below.refl _ _).alloc (by first | exact Nat.le_refl _ | (rw [z0];omega)) _).alloc (by first | exact Nat.le_refl _ | (rw [z0];omega)) _
 have e0:=zAD w (.cells #[.pointer (some ⟨p,0,none⟩)] 26)
 have e0:=(Below.heap_alloc (w.alloc (.cells #[.pointer (some ⟨p,0,none⟩)] 26)) (.cells #[.string (tx s)] 9) _ (by rw [z0];omega)).trans e0
 have e1:=zAD (w.alloc (.cells #[.pointer (some ⟨p,0,none⟩)] 26)) (.cells #[.string (tx s)] 9)
 rw [z0] at e1
 obtain ⟨w1,hw1⟩:∃ x,x=((w.alloc (.cells #[.pointer (some ⟨p,0,none⟩)] 26)).alloc (.cells #[.string (tx s)] 9)):=⟨_,rfl⟩
 rw [← hw1] at HA e0 e1
 have hx1:=hx.below HA.out
 have hm1:=hm.below HA.out
 have HFD:=yh (zDa p b N f g F s hs hF w1 hx1 hm1)
 have q0:=zAA (i:=0) e0 rfl
 have q1:=zAA (i:=0) e1 rfl
 rw [hw1] at q0 q1
 have HW1:=yh hw1
 rw [hw1] at HFD
 clear hx hx1 hm hm1 e0 e1 z0 z1 hw1
 go_enter Tryz.func49,Tryz.ntmps49
 go_wp2_with fail
 refine HFD.out.mono ?_
 rintro e w2 ⟨rfl,hb2⟩
 rw [← HW1.out] at hb2
 have HB2:=yh (HA.out.trans (hb2.mono HA.out.size))
 clear hb2
 go_wp2
 go_ret
 exact ⟨rfl,HB2.out.alloc HB2.out.size _⟩
theorem zKp (p b N base:Nat) (f g:Bool×Int) (hfi:zAX f) (hgi:zAX g) (fl:List UInt8→Option Fl) (F:List UInt8→Option Value) (s:List UInt8) (hs:s.length≤maxLen) (x:Fl) (hfx:fl s=some x)  (w:World)
  (hx:zAL w p b false f g) (hf:zAa w base b N fl F) :
  Calls Tryz.prog 49 #[.pointer (some ⟨p,0,none⟩),.string (tx s)] w fun e w' =>e=.returned (.int .i64 (zAn f g)) ∧
   ∃ N' F',zFb w w' base p b N N' (zAb g) (zAH f) (zAH g) (zCH (zAm f g false) (zAZ fl s none) fl) F F':=by
 have hpl:=hx.lt
 obtain ⟨A,c,hF,hA,ho⟩:=hf.2.2.1 s x hfx
 have z0:(w.alloc (.cells #[.pointer (some ⟨p,0,none⟩)] 26)).heap.size=w.heap.size+1:=by simp only [World.size_alloc]
 have z1:((w.alloc (.cells #[.pointer (some ⟨p,0,none⟩)] 26)).alloc (.cells #[.string (tx s)] 9)).heap.size=w.heap.size+2:=by simp only [World.size_alloc,Nat.add_assoc,Nat.reduceAdd]
 have HA:Hid (Below w.heap.size w ((w.alloc (.cells #[.pointer (some ⟨p,0,none⟩)] 26)).alloc (.cells #[.string (tx s)] 9))):=((Below.refl _ _).alloc (by first | exact Nat.le_refl _ | (rw [z0];omega)) _).alloc (by first | exact Nat.le_refl _ | (rw [z0];omega)) _
 have e0:=zAD w (.cells #[.pointer (some ⟨p,0,none⟩)] 26)
 have e0:=(Below.heap_alloc (w.alloc (.cells #[.pointer (some ⟨p,0,none⟩)] 26)) (.cells #[.string (tx s)] 9) _ (by rw [z0];omega)).trans e0
 have e1:=zAD (w.alloc (.cells #[.pointer (some ⟨p,0,none⟩)] 26)) (.cells #[.string (tx s)] 9)
 rw [z0] at e1
 obtain ⟨w1,hw1⟩:∃ x,x=((w.alloc (.cells #[.pointer (some ⟨p,0,none⟩)] 26)).alloc (.cells #[.string (tx s)] 9)):=⟨_,rfl⟩
 rw [← hw1] at HA e0 e1
 have hx1:=hx.below HA.out
 have hf1:=hf.below HA.out
 have HFD:=yh (zCv p b N f g F s hs A x.body.length c x.safe hF w1 hx1 hf1.1)
 have QF:Hid (∀ v,Below w1.heap.size w1 v→v.cell? ⟨w.heap.size,0,none⟩=some (.pointer (some ⟨p,0,none⟩))):=fun v hv =>zAA (i:=0) ((hv.block _ (zAJ e0)).trans e0) rfl
 have HACT:=yh (fun (w2:World) (hb2:Below w1.heap.size w1 w2) =>zEL p b false f g hfi hgi false 65 (enters_of Tryz.func65 (by kernel_rfl) rfl) #[.pointer (some ⟨w.heap.size,0,none⟩),.pointer (some ⟨w.heap.size+1,0,none⟩)] (w2.alloc (.cells #[.slice A x.body.length c,.int .i64 (x.safe:Int)] 62)) ((hx1.below hb2).below ((Below.refl _ _).alloc (Nat.le_refl _) _))
  (fun W W' =>(∃ F',zAa W' base b (N) (zAZ fl s none) F'∧∀ j,zAS p b F' j→zAS p b F j∨W.heap.size≤j)∧W'.heap[p]? = W.heap[p]?∧Turn (zAS p b F) W W')
  (fun d W hW hg =>by
   have hb3:Below w1.heap.size w1 (w2.alloc (.cells #[.slice A x.body.length c,.int .i64 (x.safe:Int)] 62)):=hb2.alloc hb2.size _
   have hx3:=hx1.below hb3
   have hf3:=hf1.below hb3
   have hsz:=HA.out.size
   have hsz3:=hb3.size
   have hgs:=hg.size
   have hb2s:=hb2.size
   have hfW:=zBN hf3 hx3 hg
   have hbox:=zAD w2 (.cells #[.slice A x.body.length c,.int .i64 (x.safe:Int)] 62)
   refine (zMO p b N base w.heap.size (w.heap.size+1) d _ _ fl F s hs W hW hfW ?_ ?_).mono ?_
   ·exact (hg.block _ (Nat.lt_of_lt_of_le (zAJ e0) hsz3) (fun e =>by have:=Option.some.inj e;omega)).trans ((hb3.block _ (zAJ e0)).trans e0)
   ·exact (hg.block _ (Nat.lt_of_lt_of_le (zAJ e1) hsz3) (fun e =>by have:=Option.some.inj e;omega)).trans ((hb3.block _ (zAJ e1)).trans e1)
   ·rintro e W' ⟨he,F',hF',hx',ht',hsub⟩
    exact ⟨he,⟨F',hF',hsub⟩,hx'.trans hW.symm,ht'⟩))
 have q0:=zAA (i:=0) e0 rfl
 have q1:=zAA (i:=0) e1 rfl
 rw [hw1] at q0 q1
 have HW1:=yh hw1
 rw [hw1] at HFD
 have HX1:=yh hx1
 have HF1:=yh hf1
 have HBS:Hid (w.heap.size≤w1.heap.size):=HA.out.size
 obtain ⟨n,hn⟩:∃ n,n=x.body.length:=⟨_,rfl⟩
 have HNN:=yh hn
 rw [← hn] at HFD HACT
 clear hx hf ho hx1 hf1 e0 e1 z0 z1 hw1 hF hn hA
 go_enter Tryz.func49,Tryz.ntmps49
 go_wp2_with fail
 refine HFD.out.mono ?_
 rintro e w2 ⟨rfl,hb2⟩
 rw [← HW1.out] at hb2
 have HB2:=yh hb2
 have hb3:Below w1.heap.size w1 (w2.alloc (.cells #[.slice A n c,.int .i64 (x.safe:Int)] 62)):=hb2.alloc hb2.size _
 have HB3:=yh hb3
 have hz4:=QF.out _ hb3
 have HACT2:=yh (HACT.out w2 hb2)
 clear hb2 hb3 HACT
 go_wp2_with fail
 refine HACT2.out.mono ?_
 rintro e w5 ⟨W,hbx,hg,rfl,hrun,hno⟩
 have HBX:=yh hbx
 have HG:=yh hg
 have HRUN:=yh hrun
 have HNO:=yh hno
 clear hbx hg hrun hno
 go_wp2
 go_ret
 refine ⟨rfl,?_⟩
 have hbw:Below w.heap.size w (w2.alloc (.cells #[.slice A n c,.int .i64 (x.safe:Int)] 62)):=HA.out.trans (HB3.out.mono HA.out.size)
 have htw:Turn (zAS p b F) w W:=(Turn.of_below hbw).grown HG.out (fun i hi _ =>.inl (Option.some.inj hi).symm)
 have hbx2:zAL W p b (zAb g) (zAH f) (zAH g):=by have h:=HBX.out;rw [Bool.false_or] at h;exact h
 cases hru:zAm f g false with
 | true =>
  obtain ⟨⟨F',hF',hsub⟩,hp',ht'⟩:=HRUN.out hru
  refine ⟨N,F',hp'.trans hbx2,(by first | exact hF' | (rw [HNN.out] at hF';exact hF')),by omega,htw.trans ht' (fun i hi h =>h),fun j hj =>?_⟩
  rcases hsub j hj with h | h
  ·exact .inl h
  ·exact .inr (by have:=hbw.size;have:=HG.out.size;omega)
 | false =>
  have e:=HNO.out hru
  subst e
  exact ⟨N,F,hbx2,zBN (HF1.out.below HB3.out) (HX1.out.below HB3.out) HG.out,by omega,htw,fun j hj =>.inl hj⟩
theorem zGK (base:Nat) (w:World) :
  Calls Tryz.prog 21 #[] w fun e w' =>e=.returned (.pointer (some ⟨w.heap.size+1,0,none⟩))∧zAL w' (w.heap.size+1) w.heap.size false (false,0) (false,0)∧zAa w' base w.heap.size 0 (fun _ =>none) (fun _ =>none)∧Below w.heap.size w w':=by
 have hmm:=@run_makeMap Tryz.prog
 have z0:(w.alloc (.map #[] 0)).heap.size=w.heap.size+1:=by simp
 have HB:Hid (Below w.heap.size w ((w.alloc (.map #[] 0)).alloc (.cells #[.map (some w.heap.size),.bool false,.bool false,.int .i64 0,.bool false,.int .i64 0] 59))):=((Below.refl _ _).alloc (Nat.le_refl _) _).alloc (by rw [z0];omega) _
 have HX:=zAD (w.alloc (.map #[] 0)) (.cells #[.map (some w.heap.size),.bool false,.bool false,.int .i64 0,.bool false,.int .i64 0] 59)
 rw [z0] at HX
 have HX1:=yh HX
 have HM:=yh ((zKz w).below ((Below.refl (w.alloc (.map #[] 0)).heap.size (w.alloc (.map #[] 0))).alloc (Nat.le_refl _) (.cells #[.map (some w.heap.size),.bool false,.bool false,.int .i64 0,.bool false,.int .i64 0] 59)))
 clear HX z0
 go_enter Tryz.func21,Tryz.ntmps21
 go_wp2
 go_ret
 exact ⟨rfl,HX1.out,⟨HM.out,fun _ _ =>rfl,fun _ _ h =>(by cases h),fun _ _ _ _ _ _ _ _ _ _ _ h =>(by cases h)⟩,HB.out⟩
theorem zFQ (p b N base:Nat) (down:Bool) (f g:Bool×Int) (fl:List UInt8→Option Fl) (F:List UInt8→Option Value) (s:List UInt8) (hs:s.length≤maxLen) (x:Fl) (hfx:fl s=some x) (hxl:x.body.length≤1073741824) (w:World) (h:zAL w p b down f g) (hf:zAa w base b N fl F) :
  Calls Tryz.prog 19 #[.pointer (some ⟨p,0,none⟩),.string (tx s)] w fun e w' =>(∃ A' c',e=.returned (.tuple #[.slice A' x.body.length c',.int .i64 0])∧(A'=none→c'=0)∧w'.ownsRow w.heap.size 5 1 (.slice A' x.body.length c') x.body.length (x.body.map bv))∧Below w.heap.size w w':=by
 have c0:=zAA (i:=0) h rfl
 obtain ⟨A,c,hF,hA,ho⟩:=hf.2.2.1 s x hfx
 have hlk:=hf.1.look2 hs Tryz.underlying55 (zGx w)
 rw [hF] at hlk
 simp only [Option.getD_some,Option.isSome_some] at hlk
 unfold fval at hlk
 have HB1:=yh ((Below.refl w.heap.size w).alloc (Nat.le_refl _) (.cells #[.slice A x.body.length c,.int .i64 (x.safe:Int)] 62))
 have HCL:=yh (zGM A x.body.length c x.body hxl hA (w.alloc (.cells #[.slice A x.body.length c,.int .i64 (x.safe:Int)] 62)) (((zAE.of_own ho).below HB1.out).more HB1.out.size))
 have hnew:=zAD w (.cells #[.slice A x.body.length c,.int .i64 (x.safe:Int)] 62)
 have n0:=zAA (i:=0) hnew rfl
 obtain ⟨n,hn⟩:∃ n,n=x.body.length:=⟨_,rfl⟩
 have HNN:=yh hn
 rw [← hn] at hlk HB1 HCL n0 ⊢
 clear h hf hF ho hA hnew hn hxl
 go_enter Tryz.func19,Tryz.ntmps19
 go_wp2_with fail
 refine HCL.out.mono ?_
 rintro e w2 ⟨v,rfl,ho2,hb2⟩
 obtain ⟨A2,c2,rfl,hA2⟩:=zAM ho2
 have HO2:=yh (zAV ho2 HB1.out.size)
 have HB2:=yh (HB1.out.trans (hb2.mono HB1.out.size))
 clear ho2 hb2
 go_wp2
 go_ret2
 exact ⟨⟨A2,c2,rfl,hA2,HO2.out⟩,HB2.out⟩
theorem zNI (p b:Nat) (down:Bool) (f g:Bool×Int) (n:Int) (w:World) (h:zAL w p b down f g) :
  Calls Tryz.prog 11 #[.pointer (some ⟨p,0,none⟩),.int .i64 n] w fun e w' =>e=.returned (.tuple #[])∧zAL w' p b down f (zDY n)∧Turn (fun k =>k=p) w w':=by
 obtain ⟨f1,f2⟩:=f
 obtain ⟨g1,g2⟩:=g
 have HX:=yh h
 have HAS:=yh (zLH n)
 clear h
 go_enter Tryz.func11,Tryz.ntmps11
 go_wp2_with fail
 refine (HAS.out _).mono ?_
 rintro e w2 ⟨rfl,hb2⟩
 have HB2:=yh hb2
 have hx2:=HX.out.below hb2
 unfold zAL at hx2
 have c0:=zAA (i:=4) hx2 rfl
 have c1:=zAA (i:=5) hx2 rfl
 have fz0:w2.frozen? ⟨p,4,none⟩=false:=zAC hx2
 have fz1:w2.frozen? ⟨p,5,none⟩=false:=zAC hx2
 have HS1:=yh (zAf hx2 (i:=4) (.bool (zDY n).1))
 have HS2:=yh (zAf HS1.out.1 (i:=5) (.int .i64 (zDY n).2))
 clear hb2 hx2
 go_wp2
 go_end0
 exact ⟨rfl,HS2.out.1,((Turn.of_below HB2.out).grown HS1.out.2 (fun i hi _ =>(Option.some.inj hi).symm)).grown HS2.out.2 (fun i hi _ =>(Option.some.inj hi).symm)⟩
theorem zQP (a b:List UInt8):a<b∨a=b∨b<a:=by
 by_cases h1:a<b
 ·exact .inl h1
 ·by_cases h2:b<a
  ·exact .inr (.inr h2)
  ·exact .inr (.inl (List.le_antisymm (fun h =>h2 h) (fun h =>h1 h)))
section
variable {α β:Type} (k:α→Int) (t:α→List UInt8)
def rput (x:α):Bool→List α→List α
 | laid,[] =>if laid then [] else [x]
 | laid,s :: S =>(if laid=false∧t x<t s then [x] else [])++((if t s≠t x then [s] else [])++rput x (laid || decide (t x<t s)) S)
def put1 (S:List α) (x:α):List α:=if k x=1 then rput t x false S else if k x=2 then rput t x true S else S
def fo (xs:List α):List α:=xs.foldl (put1 k t) []
variable {k t}
section
variable {k':β→Int} {t':β→List UInt8} (f:α→β) (hk:∀ x,k' (f x)=k x) (ht:∀ x,t' (f x)=t x)
include hk ht
omit hk in
end
end
end Go.Proofs.YtfbgmehicmpdiaaGreatDoor
