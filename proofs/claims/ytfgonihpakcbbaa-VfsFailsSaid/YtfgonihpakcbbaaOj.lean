/- Truncate. -/
import Derived.Test.YtfgonihpakcbbaaOi
import Derived.Test.YtfgonihpakcbbaaOg
namespace Go.Proofs.Ytfgonihpakcbbaa
open Go.RowKit Go.Maps Go.ChangeMaps Go.WideMaps Go.Sort

set_option maxRecDepth 100000 in
set_option maxHeartbeats 2000000 in
theorem trunc_down (p b : Nat) (f g : Bool × Int) (s : List UInt8) (z : Int) (w : World) (hx : FsBox w p b true f g) :
    Calls Try.prog 21 #[.pointer (some ⟨p, 0, none⟩), .string (tx s), .int .i64 z] w fun e w' => e = .returned (.int .i64 7) ∧ Below w.heap.size w w' := by
  have z0 : (w.alloc (.cells #[.pointer (some ⟨p, 0, none⟩)] 26)).heap.size = w.heap.size + 1 := by simp only [World.size_alloc]
  have z1 : ((w.alloc (.cells #[.pointer (some ⟨p, 0, none⟩)] 26)).alloc (.cells #[.string (tx s)] 9)).heap.size = w.heap.size + 2 := by simp only [World.size_alloc, Nat.add_assoc, Nat.reduceAdd]
  have z2 : (((w.alloc (.cells #[.pointer (some ⟨p, 0, none⟩)] 26)).alloc (.cells #[.string (tx s)] 9)).alloc (.cells #[.int .i64 z] 3)).heap.size = w.heap.size + 3 := by simp only [World.size_alloc, Nat.add_assoc, Nat.reduceAdd]
  have HA : Hid (Below w.heap.size w (((w.alloc (.cells #[.pointer (some ⟨p, 0, none⟩)] 26)).alloc (.cells #[.string (tx s)] 9)).alloc (.cells #[.int .i64 z] 3))) := (((Below.refl _ _).alloc (by first | exact Nat.le_refl _ | (rw [z0]; omega)) _).alloc (by first | exact Nat.le_refl _ | (rw [z0]; omega)) _).alloc (by first | exact Nat.le_refl _ | (rw [z1]; omega)) _
  have e0 := one_new w (.cells #[.pointer (some ⟨p, 0, none⟩)] 26)
  have e0 := (Below.heap_alloc (w.alloc (.cells #[.pointer (some ⟨p, 0, none⟩)] 26)) (.cells #[.string (tx s)] 9) _ (by rw [z0]; omega)).trans e0
  have e0 := (Below.heap_alloc ((w.alloc (.cells #[.pointer (some ⟨p, 0, none⟩)] 26)).alloc (.cells #[.string (tx s)] 9)) (.cells #[.int .i64 z] 3) _ (by rw [z1]; omega)).trans e0
  have e1 := one_new (w.alloc (.cells #[.pointer (some ⟨p, 0, none⟩)] 26)) (.cells #[.string (tx s)] 9)
  rw [z0] at e1
  have e1 := (Below.heap_alloc ((w.alloc (.cells #[.pointer (some ⟨p, 0, none⟩)] 26)).alloc (.cells #[.string (tx s)] 9)) (.cells #[.int .i64 z] 3) _ (by rw [z1]; omega)).trans e1
  have e2 := one_new ((w.alloc (.cells #[.pointer (some ⟨p, 0, none⟩)] 26)).alloc (.cells #[.string (tx s)] 9)) (.cells #[.int .i64 z] 3)
  rw [z1] at e2
  obtain ⟨w1, hw1⟩ : ∃ x, x = (((w.alloc (.cells #[.pointer (some ⟨p, 0, none⟩)] 26)).alloc (.cells #[.string (tx s)] 9)).alloc (.cells #[.int .i64 z] 3)) := ⟨_, rfl⟩
  rw [← hw1] at HA e0 e1 e2
  have hx1 := hx.below HA.out
  have HFD := Lib.hid (found_down p b f g s w1 hx1)
  have q0 := at_cell (i := 0) e0 rfl
  have q1 := at_cell (i := 0) e1 rfl
  have q2 := at_cell (i := 0) e2 rfl
  rw [hw1] at q0 q1 q2
  have HW1 := Lib.hid hw1
  rw [hw1] at HFD
  clear hx hx1 e0 e1 e2 z0 z1 z2 hw1
  go_enter Try.func21, Try.ntmps21
  go_wp2_with fail
  refine HFD.out.mono ?_
  rintro e w2 ⟨rfl, hb2⟩
  rw [← HW1.out] at hb2
  have HB2 := Lib.hid (HA.out.trans (hb2.mono HA.out.size))
  clear hb2

  go_wp2
  go_ret
  exact ⟨rfl, HB2.out.alloc HB2.out.size _⟩

set_option maxRecDepth 100000 in
set_option maxHeartbeats 2000000 in
theorem trunc_none (p b N : Nat) (f g : Bool × Int) (s : List UInt8) (hs : s.length ≤ maxLen) (z : Int) (F : List UInt8 → Option Value) (w : World) (hx : FsBox w p b false f g) (hm : TMap w b N F) (hF : F s = none) :
    Calls Try.prog 21 #[.pointer (some ⟨p, 0, none⟩), .string (tx s), .int .i64 z] w fun e w' => e = .returned (.int .i64 6) ∧ Below w.heap.size w w' := by
  have z0 : (w.alloc (.cells #[.pointer (some ⟨p, 0, none⟩)] 26)).heap.size = w.heap.size + 1 := by simp only [World.size_alloc]
  have z1 : ((w.alloc (.cells #[.pointer (some ⟨p, 0, none⟩)] 26)).alloc (.cells #[.string (tx s)] 9)).heap.size = w.heap.size + 2 := by simp only [World.size_alloc, Nat.add_assoc, Nat.reduceAdd]
  have z2 : (((w.alloc (.cells #[.pointer (some ⟨p, 0, none⟩)] 26)).alloc (.cells #[.string (tx s)] 9)).alloc (.cells #[.int .i64 z] 3)).heap.size = w.heap.size + 3 := by simp only [World.size_alloc, Nat.add_assoc, Nat.reduceAdd]
  have HA : Hid (Below w.heap.size w (((w.alloc (.cells #[.pointer (some ⟨p, 0, none⟩)] 26)).alloc (.cells #[.string (tx s)] 9)).alloc (.cells #[.int .i64 z] 3))) := (((Below.refl _ _).alloc (by first | exact Nat.le_refl _ | (rw [z0]; omega)) _).alloc (by first | exact Nat.le_refl _ | (rw [z0]; omega)) _).alloc (by first | exact Nat.le_refl _ | (rw [z1]; omega)) _
  have e0 := one_new w (.cells #[.pointer (some ⟨p, 0, none⟩)] 26)
  have e0 := (Below.heap_alloc (w.alloc (.cells #[.pointer (some ⟨p, 0, none⟩)] 26)) (.cells #[.string (tx s)] 9) _ (by rw [z0]; omega)).trans e0
  have e0 := (Below.heap_alloc ((w.alloc (.cells #[.pointer (some ⟨p, 0, none⟩)] 26)).alloc (.cells #[.string (tx s)] 9)) (.cells #[.int .i64 z] 3) _ (by rw [z1]; omega)).trans e0
  have e1 := one_new (w.alloc (.cells #[.pointer (some ⟨p, 0, none⟩)] 26)) (.cells #[.string (tx s)] 9)
  rw [z0] at e1
  have e1 := (Below.heap_alloc ((w.alloc (.cells #[.pointer (some ⟨p, 0, none⟩)] 26)).alloc (.cells #[.string (tx s)] 9)) (.cells #[.int .i64 z] 3) _ (by rw [z1]; omega)).trans e1
  have e2 := one_new ((w.alloc (.cells #[.pointer (some ⟨p, 0, none⟩)] 26)).alloc (.cells #[.string (tx s)] 9)) (.cells #[.int .i64 z] 3)
  rw [z1] at e2
  obtain ⟨w1, hw1⟩ : ∃ x, x = (((w.alloc (.cells #[.pointer (some ⟨p, 0, none⟩)] 26)).alloc (.cells #[.string (tx s)] 9)).alloc (.cells #[.int .i64 z] 3)) := ⟨_, rfl⟩
  rw [← hw1] at HA e0 e1 e2
  have hx1 := hx.below HA.out
  have hm1 := hm.below HA.out
  have HFD := Lib.hid (found_none p b N f g F s hs hF w1 hx1 hm1)
  have q0 := at_cell (i := 0) e0 rfl
  have q1 := at_cell (i := 0) e1 rfl
  have q2 := at_cell (i := 0) e2 rfl
  rw [hw1] at q0 q1 q2
  have HW1 := Lib.hid hw1
  rw [hw1] at HFD
  clear hx hx1 hm hm1 e0 e1 e2 z0 z1 z2 hw1
  go_enter Try.func21, Try.ntmps21
  go_wp2_with fail
  refine HFD.out.mono ?_
  rintro e w2 ⟨rfl, hb2⟩
  rw [← HW1.out] at hb2
  have HB2 := Lib.hid (HA.out.trans (hb2.mono HA.out.size))
  clear hb2

  go_wp2
  go_ret
  exact ⟨rfl, HB2.out.alloc HB2.out.size _⟩

set_option maxRecDepth 100000 in
set_option maxHeartbeats 2000000 in
theorem trunc_arg (p b N : Nat) (f g : Bool × Int) (A : Option Addr) (n c q : Nat) (s : List UInt8) (hs : s.length ≤ maxLen) (z : Int) (F : List UInt8 → Option Value) (w : World) (hx : FsBox w p b false f g) (hm : TMap w b N F) (hF : F s = some (fval A n c q)) (hz : z < 0 ∨ (n : Int) < z) :
    Calls Try.prog 21 #[.pointer (some ⟨p, 0, none⟩), .string (tx s), .int .i64 z] w fun e w' => e = .returned (.int .i64 1) ∧ Below w.heap.size w w' := by
  have z0 : (w.alloc (.cells #[.pointer (some ⟨p, 0, none⟩)] 26)).heap.size = w.heap.size + 1 := by simp only [World.size_alloc]
  have z1 : ((w.alloc (.cells #[.pointer (some ⟨p, 0, none⟩)] 26)).alloc (.cells #[.string (tx s)] 9)).heap.size = w.heap.size + 2 := by simp only [World.size_alloc, Nat.add_assoc, Nat.reduceAdd]
  have z2 : (((w.alloc (.cells #[.pointer (some ⟨p, 0, none⟩)] 26)).alloc (.cells #[.string (tx s)] 9)).alloc (.cells #[.int .i64 z] 3)).heap.size = w.heap.size + 3 := by simp only [World.size_alloc, Nat.add_assoc, Nat.reduceAdd]
  have HA : Hid (Below w.heap.size w (((w.alloc (.cells #[.pointer (some ⟨p, 0, none⟩)] 26)).alloc (.cells #[.string (tx s)] 9)).alloc (.cells #[.int .i64 z] 3))) := (((Below.refl _ _).alloc (by first | exact Nat.le_refl _ | (rw [z0]; omega)) _).alloc (by first | exact Nat.le_refl _ | (rw [z0]; omega)) _).alloc (by first | exact Nat.le_refl _ | (rw [z1]; omega)) _
  have e0 := one_new w (.cells #[.pointer (some ⟨p, 0, none⟩)] 26)
  have e0 := (Below.heap_alloc (w.alloc (.cells #[.pointer (some ⟨p, 0, none⟩)] 26)) (.cells #[.string (tx s)] 9) _ (by rw [z0]; omega)).trans e0
  have e0 := (Below.heap_alloc ((w.alloc (.cells #[.pointer (some ⟨p, 0, none⟩)] 26)).alloc (.cells #[.string (tx s)] 9)) (.cells #[.int .i64 z] 3) _ (by rw [z1]; omega)).trans e0
  have e1 := one_new (w.alloc (.cells #[.pointer (some ⟨p, 0, none⟩)] 26)) (.cells #[.string (tx s)] 9)
  rw [z0] at e1
  have e1 := (Below.heap_alloc ((w.alloc (.cells #[.pointer (some ⟨p, 0, none⟩)] 26)).alloc (.cells #[.string (tx s)] 9)) (.cells #[.int .i64 z] 3) _ (by rw [z1]; omega)).trans e1
  have e2 := one_new ((w.alloc (.cells #[.pointer (some ⟨p, 0, none⟩)] 26)).alloc (.cells #[.string (tx s)] 9)) (.cells #[.int .i64 z] 3)
  rw [z1] at e2
  obtain ⟨w1, hw1⟩ : ∃ x, x = (((w.alloc (.cells #[.pointer (some ⟨p, 0, none⟩)] 26)).alloc (.cells #[.string (tx s)] 9)).alloc (.cells #[.int .i64 z] 3)) := ⟨_, rfl⟩
  rw [← hw1] at HA e0 e1 e2
  have hx1 := hx.below HA.out
  have hm1 := hm.below HA.out
  have HFD := Lib.hid (found_some p b N f g F s hs A n c q hF w1 hx1 hm1)
  have q0 := at_cell (i := 0) e0 rfl
  have q1 := at_cell (i := 0) e1 rfl
  have q2 := at_cell (i := 0) e2 rfl
  rw [hw1] at q0 q1 q2
  have HW1 := Lib.hid hw1
  rw [hw1] at HFD
  have QZ : Hid (∀ v, Below w1.heap.size w1 v → v.cell? ⟨w.heap.size + 2, 0, none⟩ = some (.int .i64 z)) := fun v hv => at_cell (i := 0) ((hv.block _ (lt_heapv e2)).trans e2) rfl
  clear hx hx1 hm hm1 e0 e1 e2 z0 z1 z2 hw1
  go_enter Try.func21, Try.ntmps21
  go_wp2_with fail
  refine HFD.out.mono ?_
  rintro e w2 ⟨rfl, hb2⟩
  rw [← HW1.out] at hb2
  have HB2 := Lib.hid (HA.out.trans (hb2.mono HA.out.size))
  have hbox := one_new w2 (.cells #[.slice A n c, .int .i64 (q : Int)] 54)
  have b0 := at_cell (i := 0) hbox rfl
  have hz3 : (w2.alloc (.cells #[.slice A n c, .int .i64 (q : Int)] 54)).cell? ⟨w.heap.size + 2, 0, none⟩ = some (.int .i64 z) := QZ.out _ (hb2.alloc hb2.size _)
  clear hbox
  clear hb2
  by_cases hz0 : z < 0
  · go_wp2
    go_ret
    exact ⟨rfl, HB2.out.alloc HB2.out.size _⟩
  · have hz1 : z > (n : Int) := by omega
    clear hz
    go_wp2
    go_ret
    exact ⟨rfl, HB2.out.alloc HB2.out.size _⟩

set_option maxRecDepth 100000 in
set_option maxHeartbeats 4000000 in
theorem trunc_act (p b N base : Nat) (f g : Bool × Int) (hfi : AskIn f) (hgi : AskIn g) (fl : List UInt8 → Option Fl) (F : List UInt8 → Option Value) (s : List UInt8) (hs : s.length ≤ maxLen) (x : Fl) (hfx : fl s = some x) (k : Nat) (hk : k ≤ x.body.length) (hN : N < 1000000) (hxl : x.body.length ≤ 1000000000) (w : World) (hbase : base ≤ w.heap.size)
    (hx : FsBox w p b false f g) (hf : FilesF w base b N fl F) :
    Calls Try.prog 21 #[.pointer (some ⟨p, 0, none⟩), .string (tx s), .int .i64 (k : Int)] w fun e w' => e = .returned (.int .i64 (actCode f g)) ∧
      ∃ N' F', Acted w w' base p b N N' (askNow g) (askLeft f) (askLeft g) (doneF (actRuns f g false) (flput fl s (some ⟨x.body.take k, min x.safe k⟩)) fl) F F' := by
  have hpl := hx.lt
  obtain ⟨A, c, hF, hA, ho⟩ := hf.2.2.1 s x hfx
  have hcap : x.body.length ≤ c ∧ c ≤ maxLen := by
    rcases ho.2 with ⟨e, h0⟩ | ⟨g9, cap9, cur9, e, _, _, h1, h2, _⟩
    · injection e with _ e1 e2
      subst e2
      exact ⟨by omega, by unfold maxLen; omega⟩
    · injection e with _ _ e2
      subst e2
      exact ⟨h1, h2⟩
  have z0 : (w.alloc (.cells #[.pointer (some ⟨p, 0, none⟩)] 26)).heap.size = w.heap.size + 1 := by simp only [World.size_alloc]
  have z1 : ((w.alloc (.cells #[.pointer (some ⟨p, 0, none⟩)] 26)).alloc (.cells #[.string (tx s)] 9)).heap.size = w.heap.size + 2 := by simp only [World.size_alloc, Nat.add_assoc, Nat.reduceAdd]
  have z2 : (((w.alloc (.cells #[.pointer (some ⟨p, 0, none⟩)] 26)).alloc (.cells #[.string (tx s)] 9)).alloc (.cells #[.int .i64 (k : Int)] 3)).heap.size = w.heap.size + 3 := by simp only [World.size_alloc, Nat.add_assoc, Nat.reduceAdd]
  have HA : Hid (Below w.heap.size w (((w.alloc (.cells #[.pointer (some ⟨p, 0, none⟩)] 26)).alloc (.cells #[.string (tx s)] 9)).alloc (.cells #[.int .i64 (k : Int)] 3))) := (((Below.refl _ _).alloc (by first | exact Nat.le_refl _ | (rw [z0]; omega)) _).alloc (by first | exact Nat.le_refl _ | (rw [z0]; omega)) _).alloc (by first | exact Nat.le_refl _ | (rw [z1]; omega)) _
  have e0 := one_new w (.cells #[.pointer (some ⟨p, 0, none⟩)] 26)
  have e0 := (Below.heap_alloc (w.alloc (.cells #[.pointer (some ⟨p, 0, none⟩)] 26)) (.cells #[.string (tx s)] 9) _ (by rw [z0]; omega)).trans e0
  have e0 := (Below.heap_alloc ((w.alloc (.cells #[.pointer (some ⟨p, 0, none⟩)] 26)).alloc (.cells #[.string (tx s)] 9)) (.cells #[.int .i64 (k : Int)] 3) _ (by rw [z1]; omega)).trans e0
  have e1 := one_new (w.alloc (.cells #[.pointer (some ⟨p, 0, none⟩)] 26)) (.cells #[.string (tx s)] 9)
  rw [z0] at e1
  have e1 := (Below.heap_alloc ((w.alloc (.cells #[.pointer (some ⟨p, 0, none⟩)] 26)).alloc (.cells #[.string (tx s)] 9)) (.cells #[.int .i64 (k : Int)] 3) _ (by rw [z1]; omega)).trans e1
  have e2 := one_new ((w.alloc (.cells #[.pointer (some ⟨p, 0, none⟩)] 26)).alloc (.cells #[.string (tx s)] 9)) (.cells #[.int .i64 (k : Int)] 3)
  rw [z1] at e2
  obtain ⟨w1, hw1⟩ : ∃ x, x = (((w.alloc (.cells #[.pointer (some ⟨p, 0, none⟩)] 26)).alloc (.cells #[.string (tx s)] 9)).alloc (.cells #[.int .i64 (k : Int)] 3)) := ⟨_, rfl⟩
  rw [← hw1] at HA e0 e1 e2
  have hx1 := hx.below HA.out
  have hf1 := hf.below HA.out
  have HFD := Lib.hid (found_some p b N f g F s hs A x.body.length c x.safe hF w1 hx1 hf1.1)
  have QZ : Hid (∀ v, Below w1.heap.size w1 v → v.cell? ⟨w.heap.size + 2, 0, none⟩ = some (.int .i64 (k : Int))) := fun v hv => at_cell (i := 0) ((hv.block _ (lt_heapv e2)).trans e2) rfl
  have QF : Hid (∀ v, Below w1.heap.size w1 v → v.cell? ⟨w.heap.size, 0, none⟩ = some (.pointer (some ⟨p, 0, none⟩))) := fun v hv => at_cell (i := 0) ((hv.block _ (lt_heapv e0)).trans e0) rfl
  have HACT := Lib.hid (fun (w2 : World) (hb2 : Below w1.heap.size w1 w2) => act_any p b false f g hfi hgi false 33 (enters_of Try.func33 (by kernel_rfl) rfl) #[.pointer (some ⟨w2.heap.size, 0, none⟩), .pointer (some ⟨w.heap.size + 2, 0, none⟩), .pointer (some ⟨w.heap.size, 0, none⟩), .pointer (some ⟨w.heap.size + 1, 0, none⟩)] (w2.alloc (.cells #[.slice A x.body.length c, .int .i64 (x.safe : Int)] 54)) ((hx1.below hb2).below ((Below.refl _ _).alloc (Nat.le_refl _) _))
    (fun W W' => (∃ F', FilesF W' base b (N + 1) (flput fl s (some ⟨x.body.take k, min x.safe k⟩)) F' ∧ ∀ j, FsBlk p b F' j → FsBlk p b F j ∨ W.heap.size ≤ j) ∧ W'.heap[p]? = W.heap[p]? ∧ Turn (FsBlk p b F) W W')
    (fun d W hW hg => by
      have hb3 : Below w1.heap.size w1 (w2.alloc (.cells #[.slice A x.body.length c, .int .i64 (x.safe : Int)] 54)) := hb2.alloc hb2.size _
      have hx3 := hx1.below hb3
      have hf3 := hf1.below hb3
      have hsz := HA.out.size
      have hsz3 := hb3.size
      have hgs := hg.size
      have hb2s := hb2.size
      have hfW := files_past hf3 hx3 hg
      obtain ⟨A5, c5, hF5, _, ho5⟩ := hfW.2.2.1 s x hfx
      have e5 : A5 = A ∧ c5 = c := by
        rw [hF] at hF5
        have e3 := Option.some.inj hF5
        unfold fval at e3
        simp only [Value.agg.injEq, Array.mk.injEq, List.cons.injEq, and_true, Value.slice.injEq, true_and] at e3
        exact ⟨e3.1.symm, e3.2.symm⟩
      rw [e5.1, e5.2] at ho5
      have hbox := one_new w2 (.cells #[.slice A x.body.length c, .int .i64 (x.safe : Int)] 54)
      refine (trunc_do p b N base w2.heap.size (w.heap.size + 2) w.heap.size (w.heap.size + 1) d _ _ fl F s hs A x.body.length c x.safe k x.body hN (by omega) hcap.1 hcap.2 hA hk W (by omega) hW hfW ?_ ?_ ?_ ?_ (Reads.of_own ho5)).mono ?_
      · exact (hg.block _ (lt_heapv hbox) (fun e => by have := Option.some.inj e; omega)).trans hbox
      · exact (hg.block _ (Nat.lt_of_lt_of_le (lt_heapv e2) hsz3) (fun e => by have := Option.some.inj e; omega)).trans ((hb3.block _ (lt_heapv e2)).trans e2)
      · exact (hg.block _ (Nat.lt_of_lt_of_le (lt_heapv e0) hsz3) (fun e => by have := Option.some.inj e; omega)).trans ((hb3.block _ (lt_heapv e0)).trans e0)
      · exact (hg.block _ (Nat.lt_of_lt_of_le (lt_heapv e1) hsz3) (fun e => by have := Option.some.inj e; omega)).trans ((hb3.block _ (lt_heapv e1)).trans e1)
      · rintro e W' ⟨he, F', hF', hx', ht', hsub⟩
        exact ⟨he, ⟨F', hF', hsub⟩, hx'.trans hW.symm, ht'⟩))
  have q0 := at_cell (i := 0) e0 rfl
  have q1 := at_cell (i := 0) e1 rfl
  have q2 := at_cell (i := 0) e2 rfl
  rw [hw1] at q0 q1 q2
  have HW1 := Lib.hid hw1
  rw [hw1] at HFD
  have HX1 := Lib.hid hx1
  have HF1 := Lib.hid hf1
  have HKN : Hid (k ≤ x.body.length) := hk
  have HBS : Hid (w.heap.size ≤ w1.heap.size) := HA.out.size
  obtain ⟨n, hn⟩ : ∃ n, n = x.body.length := ⟨_, rfl⟩
  have hkn : k ≤ n := by rw [hn]; exact hk
  have hz0 : ¬ (k : Int) < 0 := by omega
  have hz1 : ¬ (k : Int) > (n : Int) := by omega
  rw [← hn] at HFD HACT
  clear hx hf ho hx1 hf1 e0 e1 e2 z0 z1 z2 hw1 hF hn hk hcap
  go_enter Try.func21, Try.ntmps21
  go_wp2_with fail
  refine HFD.out.mono ?_
  rintro e w2 ⟨rfl, hb2⟩
  rw [← HW1.out] at hb2
  have HB2 := Lib.hid hb2
  have hb3 : Below w1.heap.size w1 (w2.alloc (.cells #[.slice A n c, .int .i64 (x.safe : Int)] 54)) := hb2.alloc hb2.size _
  have HB3 := Lib.hid hb3
  have hbox := one_new w2 (.cells #[.slice A n c, .int .i64 (x.safe : Int)] 54)
  have b0 := at_cell (i := 0) hbox rfl
  have hz3 := QZ.out _ hb3
  have hz4 := QF.out _ hb3
  have HACT2 := Lib.hid (HACT.out w2 hb2)
  clear hb2 hb3 hbox HACT
  go_wp2_with fail
  refine HACT2.out.mono ?_
  rintro e w5 ⟨W, hbx, hg, rfl, hrun, hno⟩
  have HBX := Lib.hid hbx
  have HG := Lib.hid hg
  have HRUN := Lib.hid hrun
  have HNO := Lib.hid hno
  clear hbx hg hrun hno
  go_wp2
  go_ret
  refine ⟨rfl, ?_⟩
  have hbw : Below w.heap.size w (w2.alloc (.cells #[.slice A n c, .int .i64 (x.safe : Int)] 54)) := HA.out.trans (HB3.out.mono HA.out.size)
  have htw : Turn (FsBlk p b F) w W := (Turn.of_below hbw).grown HG.out (fun i hi _ => .inl (Option.some.inj hi).symm)
  have hbx2 : FsBox W p b (askNow g) (askLeft f) (askLeft g) := by have h := HBX.out; rw [Bool.false_or] at h; exact h
  cases hru : actRuns f g false with
  | true =>
    obtain ⟨⟨F', hF', hsub⟩, hp', ht'⟩ := HRUN.out hru
    refine ⟨N + 1, F', hp'.trans hbx2, hF', by omega, htw.trans ht' (fun i _ h => h), fun j hj => ?_⟩
    rcases hsub j hj with h | h
    · exact .inl h
    · exact .inr (by have := hbw.size; have := HG.out.size; omega)
  | false =>
    have e := HNO.out hru
    subst e
    exact ⟨N, F, hbx2, files_past (HF1.out.below HB3.out) (HX1.out.below HB3.out) HG.out, by omega, htw, fun j hj => .inl hj⟩

end Go.Proofs.Ytfgonihpakcbbaa
