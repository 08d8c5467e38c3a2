/- Sync, Rename, Remove. -/
import Derived.Test.YtfgonihpakcbbaaOl
import Derived.Test.YtfgonihpakcbbaaOj
namespace Go.Proofs.Ytfgonihpakcbbaa
open Go.RowKit Go.Maps Go.ChangeMaps Go.WideMaps Go.Sort

set_option maxRecDepth 100000 in
set_option maxHeartbeats 2000000 in
theorem sync_down (p b : Nat) (f g : Bool × Int) (s : List UInt8) (w : World) (hx : FsBox w p b true f g) :
    Calls Try.prog 20 #[.pointer (some ⟨p, 0, none⟩), .string (tx s)] w fun e w' => e = .returned (.int .i64 7) ∧ Below w.heap.size w w' := by
  have z0 : (w.alloc (.cells #[.pointer (some ⟨p, 0, none⟩)] 26)).heap.size = w.heap.size + 1 := by simp only [World.size_alloc]
  have z1 : ((w.alloc (.cells #[.pointer (some ⟨p, 0, none⟩)] 26)).alloc (.cells #[.string (tx s)] 9)).heap.size = w.heap.size + 2 := by simp only [World.size_alloc, Nat.add_assoc, Nat.reduceAdd]
  have HA : Hid (Below w.heap.size w ((w.alloc (.cells #[.pointer (some ⟨p, 0, none⟩)] 26)).alloc (.cells #[.string (tx s)] 9))) := ((Below.refl _ _).alloc (by first | exact Nat.le_refl _ | (rw [z0]; omega)) _).alloc (by first | exact Nat.le_refl _ | (rw [z0]; omega)) _
  have e0 := one_new w (.cells #[.pointer (some ⟨p, 0, none⟩)] 26)
  have e0 := (Below.heap_alloc (w.alloc (.cells #[.pointer (some ⟨p, 0, none⟩)] 26)) (.cells #[.string (tx s)] 9) _ (by rw [z0]; omega)).trans e0
  have e1 := one_new (w.alloc (.cells #[.pointer (some ⟨p, 0, none⟩)] 26)) (.cells #[.string (tx s)] 9)
  rw [z0] at e1
  obtain ⟨w1, hw1⟩ : ∃ x, x = ((w.alloc (.cells #[.pointer (some ⟨p, 0, none⟩)] 26)).alloc (.cells #[.string (tx s)] 9)) := ⟨_, rfl⟩
  rw [← hw1] at HA e0 e1
  have hx1 := hx.below HA.out
  have HFD := Lib.hid (found_down p b f g s w1 hx1)
  have q0 := at_cell (i := 0) e0 rfl
  have q1 := at_cell (i := 0) e1 rfl
  rw [hw1] at q0 q1
  have HW1 := Lib.hid hw1
  rw [hw1] at HFD
  clear hx hx1 e0 e1 z0 z1 hw1
  go_enter Try.func20, Try.ntmps20
  go_wp2_with fail
  refine HFD.out.mono ?_
  rintro e w2 ⟨rfl, hb2⟩
  rw [← HW1.out] at hb2
  have HB2 := Lib.hid (HA.out.trans (hb2.mono HA.out.size))
  clear hb2
  go_wp2
  go_ret
  exact ⟨rfl, HB2.out.alloc HB2.out.size _⟩

set_option maxRecDepth 100000 in
set_option maxHeartbeats 2000000 in
theorem sync_none (p b N : Nat) (f g : Bool × Int) (s : List UInt8) (hs : s.length ≤ maxLen) (F : List UInt8 → Option Value) (hF : F s = none) (w : World) (hx : FsBox w p b false f g) (hm : TMap w b N F) :
    Calls Try.prog 20 #[.pointer (some ⟨p, 0, none⟩), .string (tx s)] w fun e w' => e = .returned (.int .i64 6) ∧ Below w.heap.size w w' := by
  have z0 : (w.alloc (.cells #[.pointer (some ⟨p, 0, none⟩)] 26)).heap.size = w.heap.size + 1 := by simp only [World.size_alloc]
  have z1 : ((w.alloc (.cells #[.pointer (some ⟨p, 0, none⟩)] 26)).alloc (.cells #[.string (tx s)] 9)).heap.size = w.heap.size + 2 := by simp only [World.size_alloc, Nat.add_assoc, Nat.reduceAdd]
  have HA : Hid (Below w.heap.size w ((w.alloc (.cells #[.pointer (some ⟨p, 0, none⟩)] 26)).alloc (.cells #[.string (tx s)] 9))) := ((Below.refl _ _).alloc (by first | exact Nat.le_refl _ | (rw [z0]; omega)) _).alloc (by first | exact Nat.le_refl _ | (rw [z0]; omega)) _
  have e0 := one_new w (.cells #[.pointer (some ⟨p, 0, none⟩)] 26)
  have e0 := (Below.heap_alloc (w.alloc (.cells #[.pointer (some ⟨p, 0, none⟩)] 26)) (.cells #[.string (tx s)] 9) _ (by rw [z0]; omega)).trans e0
  have e1 := one_new (w.alloc (.cells #[.pointer (some ⟨p, 0, none⟩)] 26)) (.cells #[.string (tx s)] 9)
  rw [z0] at e1
  obtain ⟨w1, hw1⟩ : ∃ x, x = ((w.alloc (.cells #[.pointer (some ⟨p, 0, none⟩)] 26)).alloc (.cells #[.string (tx s)] 9)) := ⟨_, rfl⟩
  rw [← hw1] at HA e0 e1
  have hx1 := hx.below HA.out
  have hm1 := hm.below HA.out
  have HFD := Lib.hid (found_none p b N f g F s hs hF w1 hx1 hm1)
  have q0 := at_cell (i := 0) e0 rfl
  have q1 := at_cell (i := 0) e1 rfl
  rw [hw1] at q0 q1
  have HW1 := Lib.hid hw1
  rw [hw1] at HFD
  clear hx hx1 hm hm1 e0 e1 z0 z1 hw1
  go_enter Try.func20, Try.ntmps20
  go_wp2_with fail
  refine HFD.out.mono ?_
  rintro e w2 ⟨rfl, hb2⟩
  rw [← HW1.out] at hb2
  have HB2 := Lib.hid (HA.out.trans (hb2.mono HA.out.size))
  clear hb2
  go_wp2
  go_ret
  exact ⟨rfl, HB2.out.alloc HB2.out.size _⟩

set_option maxRecDepth 100000 in
set_option maxHeartbeats 4000000 in
theorem sync_act (p b N base : Nat) (f g : Bool × Int) (hfi : AskIn f) (hgi : AskIn g) (fl : List UInt8 → Option Fl) (F : List UInt8 → Option Value) (s : List UInt8) (hs : s.length ≤ maxLen) (x : Fl) (hfx : fl s = some x) (hN : N < 1000000) (w : World)
    (hx : FsBox w p b false f g) (hf : FilesF w base b N fl F) :
    Calls Try.prog 20 #[.pointer (some ⟨p, 0, none⟩), .string (tx s)] w fun e w' => e = .returned (.int .i64 (actCode f g)) ∧
      ∃ N' F', Acted w w' base p b N N' (askNow g) (askLeft f) (askLeft g) (doneF (actRuns f g false) (flput fl s (some ⟨x.body, x.body.length⟩)) fl) F F' := by
  have hpl := hx.lt
  obtain ⟨A, c, hF, hA, ho⟩ := hf.2.2.1 s x hfx
  have z0 : (w.alloc (.cells #[.pointer (some ⟨p, 0, none⟩)] 26)).heap.size = w.heap.size + 1 := by simp only [World.size_alloc]
  have z1 : ((w.alloc (.cells #[.pointer (some ⟨p, 0, none⟩)] 26)).alloc (.cells #[.string (tx s)] 9)).heap.size = w.heap.size + 2 := by simp only [World.size_alloc, Nat.add_assoc, Nat.reduceAdd]
  have HA : Hid (Below w.heap.size w ((w.alloc (.cells #[.pointer (some ⟨p, 0, none⟩)] 26)).alloc (.cells #[.string (tx s)] 9))) := ((Below.refl _ _).alloc (by first | exact Nat.le_refl _ | (rw [z0]; omega)) _).alloc (by first | exact Nat.le_refl _ | (rw [z0]; omega)) _
  have e0 := one_new w (.cells #[.pointer (some ⟨p, 0, none⟩)] 26)
  have e0 := (Below.heap_alloc (w.alloc (.cells #[.pointer (some ⟨p, 0, none⟩)] 26)) (.cells #[.string (tx s)] 9) _ (by rw [z0]; omega)).trans e0
  have e1 := one_new (w.alloc (.cells #[.pointer (some ⟨p, 0, none⟩)] 26)) (.cells #[.string (tx s)] 9)
  rw [z0] at e1
  obtain ⟨w1, hw1⟩ : ∃ x, x = ((w.alloc (.cells #[.pointer (some ⟨p, 0, none⟩)] 26)).alloc (.cells #[.string (tx s)] 9)) := ⟨_, rfl⟩
  rw [← hw1] at HA e0 e1
  have hx1 := hx.below HA.out
  have hf1 := hf.below HA.out
  have HFD := Lib.hid (found_some p b N f g F s hs A x.body.length c x.safe hF w1 hx1 hf1.1)
  have QF : Hid (∀ v, Below w1.heap.size w1 v → v.cell? ⟨w.heap.size, 0, none⟩ = some (.pointer (some ⟨p, 0, none⟩))) := fun v hv => at_cell (i := 0) ((hv.block _ (lt_heapv e0)).trans e0) rfl
  have HACT := Lib.hid (fun (w2 : World) (hb2 : Below w1.heap.size w1 w2) => act_any p b false f g hfi hgi false 32 (enters_of Try.func32 (by kernel_rfl) rfl) #[.pointer (some ⟨w2.heap.size, 0, none⟩), .pointer (some ⟨w.heap.size, 0, none⟩), .pointer (some ⟨w.heap.size + 1, 0, none⟩)] (w2.alloc (.cells #[.slice A x.body.length c, .int .i64 (x.safe : Int)] 54)) ((hx1.below hb2).below ((Below.refl _ _).alloc (Nat.le_refl _) _))
    (fun W W' => (∃ F', FilesF W' base b (N + 1) (flput fl s (some ⟨x.body, x.body.length⟩)) F' ∧ ∀ j, FsBlk p b F' j → FsBlk p b F j ∨ W.heap.size ≤ j) ∧ W'.heap[p]? = W.heap[p]? ∧ Turn (fun k => FsBlk p b F k ∨ k = w2.heap.size) W W')
    (fun d W hW hg => by
      have hb3 : Below w1.heap.size w1 (w2.alloc (.cells #[.slice A x.body.length c, .int .i64 (x.safe : Int)] 54)) := hb2.alloc hb2.size _
      have hx3 := hx1.below hb3
      have hf3 := hf1.below hb3
      have hsz := HA.out.size
      have hsz3 := hb3.size
      have hgs := hg.size
      have hb2s := hb2.size
      have hfW := files_past hf3 hx3 hg
      have hbox := one_new w2 (.cells #[.slice A x.body.length c, .int .i64 (x.safe : Int)] 54)
      refine (sync_do p b N base w2.heap.size w.heap.size (w.heap.size + 1) d _ _ fl F s hs x hfx A x.body.length c x.safe hN W hW hfW rfl rfl hF ?_ ?_ ?_).mono ?_
      · exact (hg.block _ (lt_heapv hbox) (fun e => by have := Option.some.inj e; omega)).trans hbox
      · exact (hg.block _ (Nat.lt_of_lt_of_le (lt_heapv e0) hsz3) (fun e => by have := Option.some.inj e; omega)).trans ((hb3.block _ (lt_heapv e0)).trans e0)
      · exact (hg.block _ (Nat.lt_of_lt_of_le (lt_heapv e1) hsz3) (fun e => by have := Option.some.inj e; omega)).trans ((hb3.block _ (lt_heapv e1)).trans e1)
      · rintro e W' ⟨he, F', hF', hx', ht', hsub⟩
        exact ⟨he, ⟨F', hF', hsub⟩, hx'.trans hW.symm, ht'⟩))
  have q0 := at_cell (i := 0) e0 rfl
  have q1 := at_cell (i := 0) e1 rfl
  rw [hw1] at q0 q1
  have HW1 := Lib.hid hw1
  rw [hw1] at HFD
  have HX1 := Lib.hid hx1
  have HF1 := Lib.hid hf1
  have HBS : Hid (w.heap.size ≤ w1.heap.size) := HA.out.size
  obtain ⟨n, hn⟩ : ∃ n, n = x.body.length := ⟨_, rfl⟩
  have HNN := Lib.hid hn
  rw [← hn] at HFD HACT
  clear hx hf ho hx1 hf1 e0 e1 z0 z1 hw1 hF hn hA
  go_enter Try.func20, Try.ntmps20
  go_wp2_with fail
  refine HFD.out.mono ?_
  rintro e w2 ⟨rfl, hb2⟩
  rw [← HW1.out] at hb2
  have HB2 := Lib.hid hb2
  have hb3 : Below w1.heap.size w1 (w2.alloc (.cells #[.slice A n c, .int .i64 (x.safe : Int)] 54)) := hb2.alloc hb2.size _
  have HB3 := Lib.hid hb3
  have hz4 := QF.out _ hb3
  have HACT2 := Lib.hid (HACT.out w2 hb2)
  clear hb2 hb3 HACT
  go_wp2_with fail
  refine HACT2.out.mono ?_
  rintro e w5 ⟨W, hbx, hg, rfl, hrun, hno⟩
  have HBX := Lib.hid hbx
  have HG := Lib.hid hg
  have HRUN := Lib.hid hrun
  have HNO := Lib.hid hno
  clear hbx hg hrun hno
  go_wp2
  go_ret
  refine ⟨rfl, ?_⟩
  have hbw : Below w.heap.size w (w2.alloc (.cells #[.slice A n c, .int .i64 (x.safe : Int)] 54)) := HA.out.trans (HB3.out.mono HA.out.size)
  have htw : Turn (FsBlk p b F) w W := (Turn.of_below hbw).grown HG.out (fun i hi _ => .inl (Option.some.inj hi).symm)
  have hbx2 : FsBox W p b (askNow g) (askLeft f) (askLeft g) := by have h := HBX.out; rw [Bool.false_or] at h; exact h
  cases hru : actRuns f g false with
  | true =>
    obtain ⟨⟨F', hF', hsub⟩, hp', ht'⟩ := HRUN.out hru
    refine ⟨N + 1, F', hp'.trans hbx2, (by first | exact hF' | (rw [HNN.out] at hF'; exact hF')), by omega, htw.trans ht' (fun i hi h => h.resolve_right (fun e => by have := HB2.out.size; have := HBS.out; omega)), fun j hj => ?_⟩
    rcases hsub j hj with h | h
    · exact .inl h
    · exact .inr (by have := hbw.size; have := HG.out.size; omega)
  | false =>
    have e := HNO.out hru
    subst e
    exact ⟨N, F, hbx2, files_past (HF1.out.below HB3.out) (HX1.out.below HB3.out) HG.out, by omega, htw, fun j hj => .inl hj⟩

set_option maxRecDepth 100000 in
set_option maxHeartbeats 2000000 in
theorem rename_down (p b : Nat) (f g : Bool × Int) (r s : List UInt8) (w : World) (hx : FsBox w p b true f g) :
    Calls Try.prog 22 #[.pointer (some ⟨p, 0, none⟩), .string (tx r), .string (tx s)] w fun e w' => e = .returned (.int .i64 7) ∧ Below w.heap.size w w' := by
  have z0 : (w.alloc (.cells #[.pointer (some ⟨p, 0, none⟩)] 26)).heap.size = w.heap.size + 1 := by simp only [World.size_alloc]
  have z1 : ((w.alloc (.cells #[.pointer (some ⟨p, 0, none⟩)] 26)).alloc (.cells #[.string (tx r)] 9)).heap.size = w.heap.size + 2 := by simp only [World.size_alloc, Nat.add_assoc, Nat.reduceAdd]
  have z2 : (((w.alloc (.cells #[.pointer (some ⟨p, 0, none⟩)] 26)).alloc (.cells #[.string (tx r)] 9)).alloc (.cells #[.string (tx s)] 9)).heap.size = w.heap.size + 3 := by simp only [World.size_alloc, Nat.add_assoc, Nat.reduceAdd]
  have HA : Hid (Below w.heap.size w (((w.alloc (.cells #[.pointer (some ⟨p, 0, none⟩)] 26)).alloc (.cells #[.string (tx r)] 9)).alloc (.cells #[.string (tx s)] 9))) := (((Below.refl _ _).alloc (by first | exact Nat.le_refl _ | (rw [z0]; omega)) _).alloc (by first | exact Nat.le_refl _ | (rw [z0]; omega)) _).alloc (by first | exact Nat.le_refl _ | (rw [z1]; omega)) _
  have e0 := one_new w (.cells #[.pointer (some ⟨p, 0, none⟩)] 26)
  have e0 := (Below.heap_alloc (w.alloc (.cells #[.pointer (some ⟨p, 0, none⟩)] 26)) (.cells #[.string (tx r)] 9) _ (by rw [z0]; omega)).trans e0
  have e0 := (Below.heap_alloc ((w.alloc (.cells #[.pointer (some ⟨p, 0, none⟩)] 26)).alloc (.cells #[.string (tx r)] 9)) (.cells #[.string (tx s)] 9) _ (by rw [z1]; omega)).trans e0
  have e1 := one_new (w.alloc (.cells #[.pointer (some ⟨p, 0, none⟩)] 26)) (.cells #[.string (tx r)] 9)
  rw [z0] at e1
  have e1 := (Below.heap_alloc ((w.alloc (.cells #[.pointer (some ⟨p, 0, none⟩)] 26)).alloc (.cells #[.string (tx r)] 9)) (.cells #[.string (tx s)] 9) _ (by rw [z1]; omega)).trans e1
  have e2 := one_new ((w.alloc (.cells #[.pointer (some ⟨p, 0, none⟩)] 26)).alloc (.cells #[.string (tx r)] 9)) (.cells #[.string (tx s)] 9)
  rw [z1] at e2
  obtain ⟨w1, hw1⟩ : ∃ x, x = (((w.alloc (.cells #[.pointer (some ⟨p, 0, none⟩)] 26)).alloc (.cells #[.string (tx r)] 9)).alloc (.cells #[.string (tx s)] 9)) := ⟨_, rfl⟩
  rw [← hw1] at HA e0 e1 e2
  have hx1 := hx.below HA.out
  have HFD := Lib.hid (found_down p b f g r w1 hx1)
  have q0 := at_cell (i := 0) e0 rfl
  have q1 := at_cell (i := 0) e1 rfl
  have q2 := at_cell (i := 0) e2 rfl
  rw [hw1] at q0 q1 q2
  have HW1 := Lib.hid hw1
  rw [hw1] at HFD
  clear hx hx1 e0 e1 e2 z0 z1 z2 hw1
  go_enter Try.func22, Try.ntmps22
  go_wp2_with fail
  refine HFD.out.mono ?_
  rintro e w2 ⟨rfl, hb2⟩
  rw [← HW1.out] at hb2
  have HB2 := Lib.hid (HA.out.trans (hb2.mono HA.out.size))
  clear hb2
  go_wp2
  go_ret
  exact ⟨rfl, HB2.out.alloc HB2.out.size _⟩

set_option maxRecDepth 100000 in
set_option maxHeartbeats 2000000 in
theorem rename_none (p b N : Nat) (f g : Bool × Int) (r s : List UInt8) (hr : r.length ≤ maxLen) (F : List UInt8 → Option Value) (hF : F r = none) (w : World) (hx : FsBox w p b false f g) (hm : TMap w b N F) :
    Calls Try.prog 22 #[.pointer (some ⟨p, 0, none⟩), .string (tx r), .string (tx s)] w fun e w' => e = .returned (.int .i64 6) ∧ Below w.heap.size w w' := by
  have z0 : (w.alloc (.cells #[.pointer (some ⟨p, 0, none⟩)] 26)).heap.size = w.heap.size + 1 := by simp only [World.size_alloc]
  have z1 : ((w.alloc (.cells #[.pointer (some ⟨p, 0, none⟩)] 26)).alloc (.cells #[.string (tx r)] 9)).heap.size = w.heap.size + 2 := by simp only [World.size_alloc, Nat.add_assoc, Nat.reduceAdd]
  have z2 : (((w.alloc (.cells #[.pointer (some ⟨p, 0, none⟩)] 26)).alloc (.cells #[.string (tx r)] 9)).alloc (.cells #[.string (tx s)] 9)).heap.size = w.heap.size + 3 := by simp only [World.size_alloc, Nat.add_assoc, Nat.reduceAdd]
  have HA : Hid (Below w.heap.size w (((w.alloc (.cells #[.pointer (some ⟨p, 0, none⟩)] 26)).alloc (.cells #[.string (tx r)] 9)).alloc (.cells #[.string (tx s)] 9))) := (((Below.refl _ _).alloc (by first | exact Nat.le_refl _ | (rw [z0]; omega)) _).alloc (by first | exact Nat.le_refl _ | (rw [z0]; omega)) _).alloc (by first | exact Nat.le_refl _ | (rw [z1]; omega)) _
  have e0 := one_new w (.cells #[.pointer (some ⟨p, 0, none⟩)] 26)
  have e0 := (Below.heap_alloc (w.alloc (.cells #[.pointer (some ⟨p, 0, none⟩)] 26)) (.cells #[.string (tx r)] 9) _ (by rw [z0]; omega)).trans e0
  have e0 := (Below.heap_alloc ((w.alloc (.cells #[.pointer (some ⟨p, 0, none⟩)] 26)).alloc (.cells #[.string (tx r)] 9)) (.cells #[.string (tx s)] 9) _ (by rw [z1]; omega)).trans e0
  have e1 := one_new (w.alloc (.cells #[.pointer (some ⟨p, 0, none⟩)] 26)) (.cells #[.string (tx r)] 9)
  rw [z0] at e1
  have e1 := (Below.heap_alloc ((w.alloc (.cells #[.pointer (some ⟨p, 0, none⟩)] 26)).alloc (.cells #[.string (tx r)] 9)) (.cells #[.string (tx s)] 9) _ (by rw [z1]; omega)).trans e1
  have e2 := one_new ((w.alloc (.cells #[.pointer (some ⟨p, 0, none⟩)] 26)).alloc (.cells #[.string (tx r)] 9)) (.cells #[.string (tx s)] 9)
  rw [z1] at e2
  obtain ⟨w1, hw1⟩ : ∃ x, x = (((w.alloc (.cells #[.pointer (some ⟨p, 0, none⟩)] 26)).alloc (.cells #[.string (tx r)] 9)).alloc (.cells #[.string (tx s)] 9)) := ⟨_, rfl⟩
  rw [← hw1] at HA e0 e1 e2
  have hx1 := hx.below HA.out
  have hm1 := hm.below HA.out
  have HFD := Lib.hid (found_none p b N f g F r hr hF w1 hx1 hm1)
  have q0 := at_cell (i := 0) e0 rfl
  have q1 := at_cell (i := 0) e1 rfl
  have q2 := at_cell (i := 0) e2 rfl
  rw [hw1] at q0 q1 q2
  have HW1 := Lib.hid hw1
  rw [hw1] at HFD
  clear hx hx1 hm hm1 e0 e1 e2 z0 z1 z2 hw1
  go_enter Try.func22, Try.ntmps22
  go_wp2_with fail
  refine HFD.out.mono ?_
  rintro e w2 ⟨rfl, hb2⟩
  rw [← HW1.out] at hb2
  have HB2 := Lib.hid (HA.out.trans (hb2.mono HA.out.size))
  clear hb2
  go_wp2
  go_ret
  exact ⟨rfl, HB2.out.alloc HB2.out.size _⟩

set_option maxRecDepth 100000 in
set_option maxHeartbeats 4000000 in
theorem rename_act (p b N base : Nat) (f g : Bool × Int) (hfi : AskIn f) (hgi : AskIn g) (fl : List UInt8 → Option Fl) (F : List UInt8 → Option Value) (r s : List UInt8) (hr : r.length ≤ maxLen) (hs : s.length ≤ maxLen) (x : Fl) (hfx : fl r = some x) (hN : N < 1000000) (w : World)
    (hx : FsBox w p b false f g) (hf : FilesF w base b N fl F) :
    Calls Try.prog 22 #[.pointer (some ⟨p, 0, none⟩), .string (tx r), .string (tx s)] w fun e w' => e = .returned (.int .i64 (actCode f g)) ∧
      ∃ N' F', Acted w w' base p b N N' (askNow g) (askLeft f) (askLeft g) (doneF (actRuns f g false) (flput (flput fl r none) s (some x)) fl) F F' := by
  have hpl := hx.lt
  obtain ⟨A, c, hF, hA, ho⟩ := hf.2.2.1 r x hfx
  have z0 : (w.alloc (.cells #[.pointer (some ⟨p, 0, none⟩)] 26)).heap.size = w.heap.size + 1 := by simp only [World.size_alloc]
  have z1 : ((w.alloc (.cells #[.pointer (some ⟨p, 0, none⟩)] 26)).alloc (.cells #[.string (tx r)] 9)).heap.size = w.heap.size + 2 := by simp only [World.size_alloc, Nat.add_assoc, Nat.reduceAdd]
  have z2 : (((w.alloc (.cells #[.pointer (some ⟨p, 0, none⟩)] 26)).alloc (.cells #[.string (tx r)] 9)).alloc (.cells #[.string (tx s)] 9)).heap.size = w.heap.size + 3 := by simp only [World.size_alloc, Nat.add_assoc, Nat.reduceAdd]
  have HA : Hid (Below w.heap.size w (((w.alloc (.cells #[.pointer (some ⟨p, 0, none⟩)] 26)).alloc (.cells #[.string (tx r)] 9)).alloc (.cells #[.string (tx s)] 9))) := (((Below.refl _ _).alloc (by first | exact Nat.le_refl _ | (rw [z0]; omega)) _).alloc (by first | exact Nat.le_refl _ | (rw [z0]; omega)) _).alloc (by first | exact Nat.le_refl _ | (rw [z1]; omega)) _
  have e0 := one_new w (.cells #[.pointer (some ⟨p, 0, none⟩)] 26)
  have e0 := (Below.heap_alloc (w.alloc (.cells #[.pointer (some ⟨p, 0, none⟩)] 26)) (.cells #[.string (tx r)] 9) _ (by rw [z0]; omega)).trans e0
  have e0 := (Below.heap_alloc ((w.alloc (.cells #[.pointer (some ⟨p, 0, none⟩)] 26)).alloc (.cells #[.string (tx r)] 9)) (.cells #[.string (tx s)] 9) _ (by rw [z1]; omega)).trans e0
  have e1 := one_new (w.alloc (.cells #[.pointer (some ⟨p, 0, none⟩)] 26)) (.cells #[.string (tx r)] 9)
  rw [z0] at e1
  have e1 := (Below.heap_alloc ((w.alloc (.cells #[.pointer (some ⟨p, 0, none⟩)] 26)).alloc (.cells #[.string (tx r)] 9)) (.cells #[.string (tx s)] 9) _ (by rw [z1]; omega)).trans e1
  have e2 := one_new ((w.alloc (.cells #[.pointer (some ⟨p, 0, none⟩)] 26)).alloc (.cells #[.string (tx r)] 9)) (.cells #[.string (tx s)] 9)
  rw [z1] at e2
  obtain ⟨w1, hw1⟩ : ∃ x, x = (((w.alloc (.cells #[.pointer (some ⟨p, 0, none⟩)] 26)).alloc (.cells #[.string (tx r)] 9)).alloc (.cells #[.string (tx s)] 9)) := ⟨_, rfl⟩
  rw [← hw1] at HA e0 e1 e2
  have hx1 := hx.below HA.out
  have hf1 := hf.below HA.out
  have HFD := Lib.hid (found_some p b N f g F r hr A x.body.length c x.safe hF w1 hx1 hf1.1)
  have QF : Hid (∀ v, Below w1.heap.size w1 v → v.cell? ⟨w.heap.size, 0, none⟩ = some (.pointer (some ⟨p, 0, none⟩))) := fun v hv => at_cell (i := 0) ((hv.block _ (lt_heapv e0)).trans e0) rfl
  have HACT := Lib.hid (fun (w2 : World) (hb2 : Below w1.heap.size w1 w2) => act_any p b false f g hfi hgi false 34 (enters_of Try.func34 (by kernel_rfl) rfl) #[.pointer (some ⟨w.heap.size, 0, none⟩), .pointer (some ⟨w.heap.size + 1, 0, none⟩), .pointer (some ⟨w2.heap.size, 0, none⟩), .pointer (some ⟨w.heap.size + 2, 0, none⟩)] (w2.alloc (.cells #[.slice A x.body.length c, .int .i64 (x.safe : Int)] 54)) ((hx1.below hb2).below ((Below.refl _ _).alloc (Nat.le_refl _) _))
    (fun W W' => (∃ F', FilesF W' base b (N + 1) (flput (flput fl r none) s (some x)) F' ∧ ∀ j, FsBlk p b F' j → FsBlk p b F j ∨ W.heap.size ≤ j) ∧ W'.heap[p]? = W.heap[p]? ∧ Turn (FsBlk p b F) W W')
    (fun d W hW hg => by
      have hb3 : Below w1.heap.size w1 (w2.alloc (.cells #[.slice A x.body.length c, .int .i64 (x.safe : Int)] 54)) := hb2.alloc hb2.size _
      have hx3 := hx1.below hb3
      have hf3 := hf1.below hb3
      have hsz := HA.out.size
      have hsz3 := hb3.size
      have hgs := hg.size
      have hb2s := hb2.size
      have hfW := files_past hf3 hx3 hg
      have hbox := one_new w2 (.cells #[.slice A x.body.length c, .int .i64 (x.safe : Int)] 54)
      refine (rename_do p b N base w2.heap.size w.heap.size (w.heap.size + 1) (w.heap.size + 2) d _ _ fl F r s hr hs x hfx A x.body.length c x.safe hN W hW hfW rfl rfl hF ?_ ?_ ?_ ?_).mono ?_
      · exact (hg.block _ (lt_heapv hbox) (fun e => by have := Option.some.inj e; omega)).trans hbox
      · exact (hg.block _ (Nat.lt_of_lt_of_le (lt_heapv e0) hsz3) (fun e => by have := Option.some.inj e; omega)).trans ((hb3.block _ (lt_heapv e0)).trans e0)
      · exact (hg.block _ (Nat.lt_of_lt_of_le (lt_heapv e1) hsz3) (fun e => by have := Option.some.inj e; omega)).trans ((hb3.block _ (lt_heapv e1)).trans e1)
      · exact (hg.block _ (Nat.lt_of_lt_of_le (lt_heapv e2) hsz3) (fun e => by have := Option.some.inj e; omega)).trans ((hb3.block _ (lt_heapv e2)).trans e2)
      · rintro e W' ⟨he, F', hF', hx', ht', hsub⟩
        exact ⟨he, ⟨F', hF', hsub⟩, hx'.trans hW.symm, ht'⟩))
  have q0 := at_cell (i := 0) e0 rfl
  have q1 := at_cell (i := 0) e1 rfl
  have q2 := at_cell (i := 0) e2 rfl
  rw [hw1] at q0 q1 q2
  have HW1 := Lib.hid hw1
  rw [hw1] at HFD
  have HX1 := Lib.hid hx1
  have HF1 := Lib.hid hf1
  have HBS : Hid (w.heap.size ≤ w1.heap.size) := HA.out.size
  obtain ⟨n, hn⟩ : ∃ n, n = x.body.length := ⟨_, rfl⟩
  have HNN := Lib.hid hn
  rw [← hn] at HFD HACT
  clear hx hf ho hx1 hf1 e0 e1 e2 z0 z1 z2 hw1 hF hn hA
  go_enter Try.func22, Try.ntmps22
  go_wp2_with fail
  refine HFD.out.mono ?_
  rintro e w2 ⟨rfl, hb2⟩
  rw [← HW1.out] at hb2
  have HB2 := Lib.hid hb2
  have hb3 : Below w1.heap.size w1 (w2.alloc (.cells #[.slice A n c, .int .i64 (x.safe : Int)] 54)) := hb2.alloc hb2.size _
  have HB3 := Lib.hid hb3
  have hz4 := QF.out _ hb3
  have HACT2 := Lib.hid (HACT.out w2 hb2)
  clear hb2 hb3 HACT
  go_wp2_with fail
  refine HACT2.out.mono ?_
  rintro e w5 ⟨W, hbx, hg, rfl, hrun, hno⟩
  have HBX := Lib.hid hbx
  have HG := Lib.hid hg
  have HRUN := Lib.hid hrun
  have HNO := Lib.hid hno
  clear hbx hg hrun hno
  go_wp2
  go_ret
  refine ⟨rfl, ?_⟩
  have hbw : Below w.heap.size w (w2.alloc (.cells #[.slice A n c, .int .i64 (x.safe : Int)] 54)) := HA.out.trans (HB3.out.mono HA.out.size)
  have htw : Turn (FsBlk p b F) w W := (Turn.of_below hbw).grown HG.out (fun i hi _ => .inl (Option.some.inj hi).symm)
  have hbx2 : FsBox W p b (askNow g) (askLeft f) (askLeft g) := by have h := HBX.out; rw [Bool.false_or] at h; exact h
  cases hru : actRuns f g false with
  | true =>
    obtain ⟨⟨F', hF', hsub⟩, hp', ht'⟩ := HRUN.out hru
    refine ⟨N + 1, F', hp'.trans hbx2, (by first | exact hF' | (rw [HNN.out] at hF'; exact hF')), by omega, htw.trans ht' (fun i hi h => h), fun j hj => ?_⟩
    rcases hsub j hj with h | h
    · exact .inl h
    · exact .inr (by have := hbw.size; have := HG.out.size; omega)
  | false =>
    have e := HNO.out hru
    subst e
    exact ⟨N, F, hbx2, files_past (HF1.out.below HB3.out) (HX1.out.below HB3.out) HG.out, by omega, htw, fun j hj => .inl hj⟩

set_option maxRecDepth 100000 in
set_option maxHeartbeats 2000000 in
theorem remove_down (p b : Nat) (f g : Bool × Int) (s : List UInt8) (w : World) (hx : FsBox w p b true f g) :
    Calls Try.prog 23 #[.pointer (some ⟨p, 0, none⟩), .string (tx s)] w fun e w' => e = .returned (.int .i64 7) ∧ Below w.heap.size w w' := by
  have z0 : (w.alloc (.cells #[.pointer (some ⟨p, 0, none⟩)] 26)).heap.size = w.heap.size + 1 := by simp only [World.size_alloc]
  have z1 : ((w.alloc (.cells #[.pointer (some ⟨p, 0, none⟩)] 26)).alloc (.cells #[.string (tx s)] 9)).heap.size = w.heap.size + 2 := by simp only [World.size_alloc, Nat.add_assoc, Nat.reduceAdd]
  have HA : Hid (Below w.heap.size w ((w.alloc (.cells #[.pointer (some ⟨p, 0, none⟩)] 26)).alloc (.cells #[.string (tx s)] 9))) := ((Below.refl _ _).alloc (by first | exact Nat.le_refl _ | (rw [z0]; omega)) _).alloc (by first | exact Nat.le_refl _ | (rw [z0]; omega)) _
  have e0 := one_new w (.cells #[.pointer (some ⟨p, 0, none⟩)] 26)
  have e0 := (Below.heap_alloc (w.alloc (.cells #[.pointer (some ⟨p, 0, none⟩)] 26)) (.cells #[.string (tx s)] 9) _ (by rw [z0]; omega)).trans e0
  have e1 := one_new (w.alloc (.cells #[.pointer (some ⟨p, 0, none⟩)] 26)) (.cells #[.string (tx s)] 9)
  rw [z0] at e1
  obtain ⟨w1, hw1⟩ : ∃ x, x = ((w.alloc (.cells #[.pointer (some ⟨p, 0, none⟩)] 26)).alloc (.cells #[.string (tx s)] 9)) := ⟨_, rfl⟩
  rw [← hw1] at HA e0 e1
  have hx1 := hx.below HA.out
  have HFD := Lib.hid (found_down p b f g s w1 hx1)
  have q0 := at_cell (i := 0) e0 rfl
  have q1 := at_cell (i := 0) e1 rfl
  rw [hw1] at q0 q1
  have HW1 := Lib.hid hw1
  rw [hw1] at HFD
  clear hx hx1 e0 e1 z0 z1 hw1
  go_enter Try.func23, Try.ntmps23
  go_wp2_with fail
  refine HFD.out.mono ?_
  rintro e w2 ⟨rfl, hb2⟩
  rw [← HW1.out] at hb2
  have HB2 := Lib.hid (HA.out.trans (hb2.mono HA.out.size))
  clear hb2
  go_wp2
  go_ret
  exact ⟨rfl, HB2.out.alloc HB2.out.size _⟩

set_option maxRecDepth 100000 in
set_option maxHeartbeats 2000000 in
theorem remove_none (p b N : Nat) (f g : Bool × Int) (s : List UInt8) (hs : s.length ≤ maxLen) (F : List UInt8 → Option Value) (hF : F s = none) (w : World) (hx : FsBox w p b false f g) (hm : TMap w b N F) :
    Calls Try.prog 23 #[.pointer (some ⟨p, 0, none⟩), .string (tx s)] w fun e w' => e = .returned (.int .i64 6) ∧ Below w.heap.size w w' := by
  have z0 : (w.alloc (.cells #[.pointer (some ⟨p, 0, none⟩)] 26)).heap.size = w.heap.size + 1 := by simp only [World.size_alloc]
  have z1 : ((w.alloc (.cells #[.pointer (some ⟨p, 0, none⟩)] 26)).alloc (.cells #[.string (tx s)] 9)).heap.size = w.heap.size + 2 := by simp only [World.size_alloc, Nat.add_assoc, Nat.reduceAdd]
  have HA : Hid (Below w.heap.size w ((w.alloc (.cells #[.pointer (some ⟨p, 0, none⟩)] 26)).alloc (.cells #[.string (tx s)] 9))) := ((Below.refl _ _).alloc (by first | exact Nat.le_refl _ | (rw [z0]; omega)) _).alloc (by first | exact Nat.le_refl _ | (rw [z0]; omega)) _
  have e0 := one_new w (.cells #[.pointer (some ⟨p, 0, none⟩)] 26)
  have e0 := (Below.heap_alloc (w.alloc (.cells #[.pointer (some ⟨p, 0, none⟩)] 26)) (.cells #[.string (tx s)] 9) _ (by rw [z0]; omega)).trans e0
  have e1 := one_new (w.alloc (.cells #[.pointer (some ⟨p, 0, none⟩)] 26)) (.cells #[.string (tx s)] 9)
  rw [z0] at e1
  obtain ⟨w1, hw1⟩ : ∃ x, x = ((w.alloc (.cells #[.pointer (some ⟨p, 0, none⟩)] 26)).alloc (.cells #[.string (tx s)] 9)) := ⟨_, rfl⟩
  rw [← hw1] at HA e0 e1
  have hx1 := hx.below HA.out
  have hm1 := hm.below HA.out
  have HFD := Lib.hid (found_none p b N f g F s hs hF w1 hx1 hm1)
  have q0 := at_cell (i := 0) e0 rfl
  have q1 := at_cell (i := 0) e1 rfl
  rw [hw1] at q0 q1
  have HW1 := Lib.hid hw1
  rw [hw1] at HFD
  clear hx hx1 hm hm1 e0 e1 z0 z1 hw1
  go_enter Try.func23, Try.ntmps23
  go_wp2_with fail
  refine HFD.out.mono ?_
  rintro e w2 ⟨rfl, hb2⟩
  rw [← HW1.out] at hb2
  have HB2 := Lib.hid (HA.out.trans (hb2.mono HA.out.size))
  clear hb2
  go_wp2
  go_ret
  exact ⟨rfl, HB2.out.alloc HB2.out.size _⟩

set_option maxRecDepth 100000 in
set_option maxHeartbeats 4000000 in
theorem remove_act (p b N base : Nat) (f g : Bool × Int) (hfi : AskIn f) (hgi : AskIn g) (fl : List UInt8 → Option Fl) (F : List UInt8 → Option Value) (s : List UInt8) (hs : s.length ≤ maxLen) (x : Fl) (hfx : fl s = some x)  (w : World)
    (hx : FsBox w p b false f g) (hf : FilesF w base b N fl F) :
    Calls Try.prog 23 #[.pointer (some ⟨p, 0, none⟩), .string (tx s)] w fun e w' => e = .returned (.int .i64 (actCode f g)) ∧
      ∃ N' F', Acted w w' base p b N N' (askNow g) (askLeft f) (askLeft g) (doneF (actRuns f g false) (flput fl s none) fl) F F' := by
  have hpl := hx.lt
  obtain ⟨A, c, hF, hA, ho⟩ := hf.2.2.1 s x hfx
  have z0 : (w.alloc (.cells #[.pointer (some ⟨p, 0, none⟩)] 26)).heap.size = w.heap.size + 1 := by simp only [World.size_alloc]
  have z1 : ((w.alloc (.cells #[.pointer (some ⟨p, 0, none⟩)] 26)).alloc (.cells #[.string (tx s)] 9)).heap.size = w.heap.size + 2 := by simp only [World.size_alloc, Nat.add_assoc, Nat.reduceAdd]
  have HA : Hid (Below w.heap.size w ((w.alloc (.cells #[.pointer (some ⟨p, 0, none⟩)] 26)).alloc (.cells #[.string (tx s)] 9))) := ((Below.refl _ _).alloc (by first | exact Nat.le_refl _ | (rw [z0]; omega)) _).alloc (by first | exact Nat.le_refl _ | (rw [z0]; omega)) _
  have e0 := one_new w (.cells #[.pointer (some ⟨p, 0, none⟩)] 26)
  have e0 := (Below.heap_alloc (w.alloc (.cells #[.pointer (some ⟨p, 0, none⟩)] 26)) (.cells #[.string (tx s)] 9) _ (by rw [z0]; omega)).trans e0
  have e1 := one_new (w.alloc (.cells #[.pointer (some ⟨p, 0, none⟩)] 26)) (.cells #[.string (tx s)] 9)
  rw [z0] at e1
  obtain ⟨w1, hw1⟩ : ∃ x, x = ((w.alloc (.cells #[.pointer (some ⟨p, 0, none⟩)] 26)).alloc (.cells #[.string (tx s)] 9)) := ⟨_, rfl⟩
  rw [← hw1] at HA e0 e1
  have hx1 := hx.below HA.out
  have hf1 := hf.below HA.out
  have HFD := Lib.hid (found_some p b N f g F s hs A x.body.length c x.safe hF w1 hx1 hf1.1)
  have QF : Hid (∀ v, Below w1.heap.size w1 v → v.cell? ⟨w.heap.size, 0, none⟩ = some (.pointer (some ⟨p, 0, none⟩))) := fun v hv => at_cell (i := 0) ((hv.block _ (lt_heapv e0)).trans e0) rfl
  have HACT := Lib.hid (fun (w2 : World) (hb2 : Below w1.heap.size w1 w2) => act_any p b false f g hfi hgi false 35 (enters_of Try.func35 (by kernel_rfl) rfl) #[.pointer (some ⟨w.heap.size, 0, none⟩), .pointer (some ⟨w.heap.size + 1, 0, none⟩)] (w2.alloc (.cells #[.slice A x.body.length c, .int .i64 (x.safe : Int)] 54)) ((hx1.below hb2).below ((Below.refl _ _).alloc (Nat.le_refl _) _))
    (fun W W' => (∃ F', FilesF W' base b (N) (flput fl s none) F' ∧ ∀ j, FsBlk p b F' j → FsBlk p b F j ∨ W.heap.size ≤ j) ∧ W'.heap[p]? = W.heap[p]? ∧ Turn (FsBlk p b F) W W')
    (fun d W hW hg => by
      have hb3 : Below w1.heap.size w1 (w2.alloc (.cells #[.slice A x.body.length c, .int .i64 (x.safe : Int)] 54)) := hb2.alloc hb2.size _
      have hx3 := hx1.below hb3
      have hf3 := hf1.below hb3
      have hsz := HA.out.size
      have hsz3 := hb3.size
      have hgs := hg.size
      have hb2s := hb2.size
      have hfW := files_past hf3 hx3 hg
      have hbox := one_new w2 (.cells #[.slice A x.body.length c, .int .i64 (x.safe : Int)] 54)
      refine (remove_do p b N base w.heap.size (w.heap.size + 1) d _ _ fl F s hs W hW hfW ?_ ?_).mono ?_
      · exact (hg.block _ (Nat.lt_of_lt_of_le (lt_heapv e0) hsz3) (fun e => by have := Option.some.inj e; omega)).trans ((hb3.block _ (lt_heapv e0)).trans e0)
      · exact (hg.block _ (Nat.lt_of_lt_of_le (lt_heapv e1) hsz3) (fun e => by have := Option.some.inj e; omega)).trans ((hb3.block _ (lt_heapv e1)).trans e1)
      · rintro e W' ⟨he, F', hF', hx', ht', hsub⟩
        exact ⟨he, ⟨F', hF', hsub⟩, hx'.trans hW.symm, ht'⟩))
  have q0 := at_cell (i := 0) e0 rfl
  have q1 := at_cell (i := 0) e1 rfl
  rw [hw1] at q0 q1
  have HW1 := Lib.hid hw1
  rw [hw1] at HFD
  have HX1 := Lib.hid hx1
  have HF1 := Lib.hid hf1
  have HBS : Hid (w.heap.size ≤ w1.heap.size) := HA.out.size
  obtain ⟨n, hn⟩ : ∃ n, n = x.body.length := ⟨_, rfl⟩
  have HNN := Lib.hid hn
  rw [← hn] at HFD HACT
  clear hx hf ho hx1 hf1 e0 e1 z0 z1 hw1 hF hn hA
  go_enter Try.func23, Try.ntmps23
  go_wp2_with fail
  refine HFD.out.mono ?_
  rintro e w2 ⟨rfl, hb2⟩
  rw [← HW1.out] at hb2
  have HB2 := Lib.hid hb2
  have hb3 : Below w1.heap.size w1 (w2.alloc (.cells #[.slice A n c, .int .i64 (x.safe : Int)] 54)) := hb2.alloc hb2.size _
  have HB3 := Lib.hid hb3
  have hz4 := QF.out _ hb3
  have HACT2 := Lib.hid (HACT.out w2 hb2)
  clear hb2 hb3 HACT
  go_wp2_with fail
  refine HACT2.out.mono ?_
  rintro e w5 ⟨W, hbx, hg, rfl, hrun, hno⟩
  have HBX := Lib.hid hbx
  have HG := Lib.hid hg
  have HRUN := Lib.hid hrun
  have HNO := Lib.hid hno
  clear hbx hg hrun hno
  go_wp2
  go_ret
  refine ⟨rfl, ?_⟩
  have hbw : Below w.heap.size w (w2.alloc (.cells #[.slice A n c, .int .i64 (x.safe : Int)] 54)) := HA.out.trans (HB3.out.mono HA.out.size)
  have htw : Turn (FsBlk p b F) w W := (Turn.of_below hbw).grown HG.out (fun i hi _ => .inl (Option.some.inj hi).symm)
  have hbx2 : FsBox W p b (askNow g) (askLeft f) (askLeft g) := by have h := HBX.out; rw [Bool.false_or] at h; exact h
  cases hru : actRuns f g false with
  | true =>
    obtain ⟨⟨F', hF', hsub⟩, hp', ht'⟩ := HRUN.out hru
    refine ⟨N, F', hp'.trans hbx2, (by first | exact hF' | (rw [HNN.out] at hF'; exact hF')), by omega, htw.trans ht' (fun i hi h => h), fun j hj => ?_⟩
    rcases hsub j hj with h | h
    · exact .inl h
    · exact .inr (by have := hbw.size; have := HG.out.size; omega)
  | false =>
    have e := HNO.out hru
    subst e
    exact ⟨N, F, hbx2, files_past (HF1.out.below HB3.out) (HX1.out.below HB3.out) HG.out, by omega, htw, fun j hj => .inl hj⟩

end Go.Proofs.Ytfgonihpakcbbaa
