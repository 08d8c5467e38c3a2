/- act. -/
import Derived.Shelf.Abstract
import Derived.Test.YtfgonihpakcbbaaOb
namespace Go.Proofs.Ytfgonihpakcbbaa
open Go.RowKit Go.Maps Go.Sort

/-- What an act answers; whether it is done. -/
def actCode (f g : Bool × Int) : Int := if askNow g = true then 7 else if askNow f = true then 8 else 0
def actRuns (f g : Bool × Int) (late : Bool) : Bool := if askNow g = true then late else !askNow f
theorem grown_none {w w' w'' : World} {row : Option Nat} (h : w.grownBy w' none) (k : w'.grownBy w'' row) : w.grownBy w'' row :=
  ⟨k.os.trans h.os, k.tape.trans h.tape, k.output.trans h.output, Nat.le_trans h.size k.size, fun i hi hne => (k.block i (Nat.lt_of_lt_of_le hi h.size) hne).trans (h.block i hi (by simp))⟩

set_option maxRecDepth 100000 in
set_option maxHeartbeats 2000000 in
theorem act_ttt (p b : Nat) (down : Bool) (f g : Bool × Int) (hf : AskIn f) (hg : AskIn g) (ha1 : askNow f = true) (ha2 : askNow g = true) (k : FuncId) (hen : Enters Try.prog k) (caps : Array Value) (w : World) (h : FsBox w p b down f g) (R : World → World → Prop)
    (hdo : ∀ d W, FsBox W p b d (askLeft f) (askLeft g) → w.grownBy W (some p) → Calls Try.prog k caps W fun e w' => e = .returned (.tuple #[]) ∧ R W w') :
    Calls Try.prog 29 #[.pointer (some ⟨p, 0, none⟩), .bool true, .func (.func k) #[] caps] w fun e w' => ∃ W, FsBox W p b true (askLeft f) (askLeft g) ∧ w.grownBy W (some p) ∧ e = .returned (.int .i64 7) ∧ R W w' := by
  have HDO := Lib.hid hdo
  have hen2 : ∀ (args : Array Value) (w : World), (callFunc k args).run Try.prog w = .ok (.enter k args) w := hen
  have HAF := Lib.hid ha1
  have HAG := Lib.hid ha2
  clear hdo ha1 ha2
  go_enter Try.func29, Try.ntmps29
  go_wp2
  refine wp_region_held (S := fun _ => True) (by kernel_rfl) (show wpAnyH _ _ _ _ _ _ _ _ (w.drew) from ?_)
  have HX0 : Hid (FsBox w.drew p b down f g) := h
  have HD0 : Hid (w.grownBy w.drew none) := ⟨rfl, rfl, rfl, Nat.le_refl _, fun _ _ _ => rfl⟩
  clear h
  obtain ⟨w0, hw0⟩ : ∃ x, x = w.drew := ⟨_, rfl⟩
  rw [← hw0] at HX0 HD0 ⊢
  clear hw0
  refine h_take 0 (.pointer (some ⟨p, 0, none⟩)) rfl (by kernel_rfl) (by kernel_rfl) (by kernel_rfl) (fun _ _ _ h => h) (by kernel_rfl) trivial (fun _ _ => by kernel_rfl) ?_
  refine h_take 1 (.pointer (some ⟨p, 0, none⟩)) rfl (by kernel_rfl) (by kernel_rfl) (by kernel_rfl) (fun _ _ _ h => h) (by kernel_rfl) trivial (fun _ _ => by go_simp) ?_
  refine h_take 2 (.pointer (some ⟨p, 2, none⟩)) rfl (by kernel_rfl) (by kernel_rfl) (by kernel_rfl) (fun _ _ _ h => h) (by kernel_rfl) trivial (fun _ _ => by go_simp) ?_
  refine h_take 4 (.pointer (some ⟨p, 0, none⟩)) rfl (by kernel_rfl) (by kernel_rfl) (by kernel_rfl) (fun _ _ _ h => h) (by kernel_rfl) trivial (fun _ _ => by kernel_rfl) ?_
  refine h_take 5 (.pointer (some ⟨p, 0, none⟩)) rfl (by kernel_rfl) (by kernel_rfl) (by kernel_rfl) (fun _ _ _ h => h) (by kernel_rfl) trivial (fun _ _ => by go_simp) ?_
  refine h_take 6 (.pointer (some ⟨p, 4, none⟩)) rfl (by kernel_rfl) (by kernel_rfl) (by kernel_rfl) (fun _ _ _ h => h) (by kernel_rfl) trivial (fun _ _ => by go_simp) ?_
  refine h_one 3 rfl (by kernel_rfl) (by kernel_rfl) (fun K hK => ?_)
  go_simp
  refine (comes_fail p b down f g hf w0 (HX0.out)).mono ?_
  rintro e w1 ⟨he1, hx1, hg1⟩
  rw [HAF.out] at he1; subst he1
  have HX1 := Lib.hid hx1
  have HG1 := Lib.hid hg1
  clear hx1 hg1
  refine hK _ _ trivial ?_
  clear hK K
  refine h_one 7 rfl (by kernel_rfl) (by kernel_rfl) (fun K hK => ?_)
  go_simp
  refine (comes_fall p b down (askLeft f) g hg w1 (HX1.out)).mono ?_
  rintro e w2 ⟨he2, hx2, hg2⟩
  rw [HAG.out] at he2; subst he2
  have HX2 := Lib.hid hx2
  have HG2 := Lib.hid hg2
  clear hx2 hg2
  refine hK _ _ trivial ?_
  clear hK K
  refine h_take 8 (.bool true) rfl (by kernel_rfl) (by kernel_rfl) (by kernel_rfl) (fun _ _ _ h => h) (by kernel_rfl) trivial (fun _ _ => by kernel_rfl) ?_
  refine h_take 9 (.bool true) rfl (by kernel_rfl) (by kernel_rfl) (by kernel_rfl) (fun _ _ _ h => h) (by kernel_rfl) trivial (fun _ _ => by kernel_rfl) ?_
  refine wpAnyH_done (by kernel_rfl) ?_ _
  go_simp
  have HW := Lib.hid (HG1.out.trans HG2.out)
  have HX := HX2
  generalize w2 = w5 at HX HW ⊢
  have hfz : w5.frozen? ⟨p, 1, none⟩ = false := at_frozen HX.out
  have hq1 := at_cell (i := 1) HX.out rfl
  have HS := Lib.hid (set_grown HX.out (i := 1) (.bool true))
  have HB : Hid (FsBox (w5.setCell ⟨p, 1, none⟩ (.bool true)) p b true (askLeft f) (askLeft g)) := HS.out.1
  have HGW : Hid (w.grownBy (w5.setCell ⟨p, 1, none⟩ (.bool true)) (some p)) := (grown_none HD0.out (HW.out.trans HS.out.2))
  go_wp2_with fail
  refine (HDO.out true _ HB.out HGW.out).mono ?_
  rintro e w7 ⟨rfl, hr⟩
  have HR := Lib.hid hr
  clear hr
  go_wp2
  go_ret
  exact ⟨_, HB.out, HGW.out, rfl, HR.out⟩

set_option maxRecDepth 100000 in
set_option maxHeartbeats 2000000 in
theorem act_ttf (p b : Nat) (down : Bool) (f g : Bool × Int) (hf : AskIn f) (hg : AskIn g) (ha1 : askNow f = true) (ha2 : askNow g = true) (k : FuncId) (hen : Enters Try.prog k) (caps : Array Value) (w : World) (h : FsBox w p b down f g) (R : World → World → Prop)
    (hdo : ∀ d W, FsBox W p b d (askLeft f) (askLeft g) → w.grownBy W (some p) → Calls Try.prog k caps W fun e w' => e = .returned (.tuple #[]) ∧ R W w') :
    Calls Try.prog 29 #[.pointer (some ⟨p, 0, none⟩), .bool false, .func (.func k) #[] caps] w fun e w' => ∃ W, FsBox W p b true (askLeft f) (askLeft g) ∧ w.grownBy W (some p) ∧ e = .returned (.int .i64 7) ∧ w' = W := by
  have HDO := Lib.hid hdo
  have hen2 : ∀ (args : Array Value) (w : World), (callFunc k args).run Try.prog w = .ok (.enter k args) w := hen
  have HAF := Lib.hid ha1
  have HAG := Lib.hid ha2
  clear hdo ha1 ha2
  go_enter Try.func29, Try.ntmps29
  go_wp2
  refine wp_region_held (S := fun _ => True) (by kernel_rfl) (show wpAnyH _ _ _ _ _ _ _ _ (w.drew) from ?_)
  have HX0 : Hid (FsBox w.drew p b down f g) := h
  have HD0 : Hid (w.grownBy w.drew none) := ⟨rfl, rfl, rfl, Nat.le_refl _, fun _ _ _ => rfl⟩
  clear h
  obtain ⟨w0, hw0⟩ : ∃ x, x = w.drew := ⟨_, rfl⟩
  rw [← hw0] at HX0 HD0 ⊢
  clear hw0
  refine h_take 0 (.pointer (some ⟨p, 0, none⟩)) rfl (by kernel_rfl) (by kernel_rfl) (by kernel_rfl) (fun _ _ _ h => h) (by kernel_rfl) trivial (fun _ _ => by kernel_rfl) ?_
  refine h_take 1 (.pointer (some ⟨p, 0, none⟩)) rfl (by kernel_rfl) (by kernel_rfl) (by kernel_rfl) (fun _ _ _ h => h) (by kernel_rfl) trivial (fun _ _ => by go_simp) ?_
  refine h_take 2 (.pointer (some ⟨p, 2, none⟩)) rfl (by kernel_rfl) (by kernel_rfl) (by kernel_rfl) (fun _ _ _ h => h) (by kernel_rfl) trivial (fun _ _ => by go_simp) ?_
  refine h_take 4 (.pointer (some ⟨p, 0, none⟩)) rfl (by kernel_rfl) (by kernel_rfl) (by kernel_rfl) (fun _ _ _ h => h) (by kernel_rfl) trivial (fun _ _ => by kernel_rfl) ?_
  refine h_take 5 (.pointer (some ⟨p, 0, none⟩)) rfl (by kernel_rfl) (by kernel_rfl) (by kernel_rfl) (fun _ _ _ h => h) (by kernel_rfl) trivial (fun _ _ => by go_simp) ?_
  refine h_take 6 (.pointer (some ⟨p, 4, none⟩)) rfl (by kernel_rfl) (by kernel_rfl) (by kernel_rfl) (fun _ _ _ h => h) (by kernel_rfl) trivial (fun _ _ => by go_simp) ?_
  refine h_one 3 rfl (by kernel_rfl) (by kernel_rfl) (fun K hK => ?_)
  go_simp
  refine (comes_fail p b down f g hf w0 (HX0.out)).mono ?_
  rintro e w1 ⟨he1, hx1, hg1⟩
  rw [HAF.out] at he1; subst he1
  have HX1 := Lib.hid hx1
  have HG1 := Lib.hid hg1
  clear hx1 hg1
  refine hK _ _ trivial ?_
  clear hK K
  refine h_one 7 rfl (by kernel_rfl) (by kernel_rfl) (fun K hK => ?_)
  go_simp
  refine (comes_fall p b down (askLeft f) g hg w1 (HX1.out)).mono ?_
  rintro e w2 ⟨he2, hx2, hg2⟩
  rw [HAG.out] at he2; subst he2
  have HX2 := Lib.hid hx2
  have HG2 := Lib.hid hg2
  clear hx2 hg2
  refine hK _ _ trivial ?_
  clear hK K
  refine h_take 8 (.bool true) rfl (by kernel_rfl) (by kernel_rfl) (by kernel_rfl) (fun _ _ _ h => h) (by kernel_rfl) trivial (fun _ _ => by kernel_rfl) ?_
  refine h_take 9 (.bool true) rfl (by kernel_rfl) (by kernel_rfl) (by kernel_rfl) (fun _ _ _ h => h) (by kernel_rfl) trivial (fun _ _ => by kernel_rfl) ?_
  refine wpAnyH_done (by kernel_rfl) ?_ _
  go_simp
  have HW := Lib.hid (HG1.out.trans HG2.out)
  have HX := HX2
  generalize w2 = w5 at HX HW ⊢
  have hfz : w5.frozen? ⟨p, 1, none⟩ = false := at_frozen HX.out
  have hq1 := at_cell (i := 1) HX.out rfl
  have HS := Lib.hid (set_grown HX.out (i := 1) (.bool true))
  have HB : Hid (FsBox (w5.setCell ⟨p, 1, none⟩ (.bool true)) p b true (askLeft f) (askLeft g)) := HS.out.1
  have HGW : Hid (w.grownBy (w5.setCell ⟨p, 1, none⟩ (.bool true)) (some p)) := (grown_none HD0.out (HW.out.trans HS.out.2))
  go_wp2
  go_ret
  exact ⟨_, HB.out, HGW.out, rfl, rfl⟩

set_option maxRecDepth 100000 in
set_option maxHeartbeats 2000000 in
theorem act_ftt (p b : Nat) (down : Bool) (f g : Bool × Int) (hf : AskIn f) (hg : AskIn g) (ha1 : askNow f = false) (ha2 : askNow g = true) (k : FuncId) (hen : Enters Try.prog k) (caps : Array Value) (w : World) (h : FsBox w p b down f g) (R : World → World → Prop)
    (hdo : ∀ d W, FsBox W p b d (askLeft f) (askLeft g) → w.grownBy W (some p) → Calls Try.prog k caps W fun e w' => e = .returned (.tuple #[]) ∧ R W w') :
    Calls Try.prog 29 #[.pointer (some ⟨p, 0, none⟩), .bool true, .func (.func k) #[] caps] w fun e w' => ∃ W, FsBox W p b true (askLeft f) (askLeft g) ∧ w.grownBy W (some p) ∧ e = .returned (.int .i64 7) ∧ R W w' := by
  have HDO := Lib.hid hdo
  have hen2 : ∀ (args : Array Value) (w : World), (callFunc k args).run Try.prog w = .ok (.enter k args) w := hen
  have HAF := Lib.hid ha1
  have HAG := Lib.hid ha2
  clear hdo ha1 ha2
  go_enter Try.func29, Try.ntmps29
  go_wp2
  refine wp_region_held (S := fun _ => True) (by kernel_rfl) (show wpAnyH _ _ _ _ _ _ _ _ (w.drew) from ?_)
  have HX0 : Hid (FsBox w.drew p b down f g) := h
  have HD0 : Hid (w.grownBy w.drew none) := ⟨rfl, rfl, rfl, Nat.le_refl _, fun _ _ _ => rfl⟩
  clear h
  obtain ⟨w0, hw0⟩ : ∃ x, x = w.drew := ⟨_, rfl⟩
  rw [← hw0] at HX0 HD0 ⊢
  clear hw0
  refine h_take 0 (.pointer (some ⟨p, 0, none⟩)) rfl (by kernel_rfl) (by kernel_rfl) (by kernel_rfl) (fun _ _ _ h => h) (by kernel_rfl) trivial (fun _ _ => by kernel_rfl) ?_
  refine h_take 1 (.pointer (some ⟨p, 0, none⟩)) rfl (by kernel_rfl) (by kernel_rfl) (by kernel_rfl) (fun _ _ _ h => h) (by kernel_rfl) trivial (fun _ _ => by go_simp) ?_
  refine h_take 2 (.pointer (some ⟨p, 2, none⟩)) rfl (by kernel_rfl) (by kernel_rfl) (by kernel_rfl) (fun _ _ _ h => h) (by kernel_rfl) trivial (fun _ _ => by go_simp) ?_
  refine h_take 4 (.pointer (some ⟨p, 0, none⟩)) rfl (by kernel_rfl) (by kernel_rfl) (by kernel_rfl) (fun _ _ _ h => h) (by kernel_rfl) trivial (fun _ _ => by kernel_rfl) ?_
  refine h_take 5 (.pointer (some ⟨p, 0, none⟩)) rfl (by kernel_rfl) (by kernel_rfl) (by kernel_rfl) (fun _ _ _ h => h) (by kernel_rfl) trivial (fun _ _ => by go_simp) ?_
  refine h_take 6 (.pointer (some ⟨p, 4, none⟩)) rfl (by kernel_rfl) (by kernel_rfl) (by kernel_rfl) (fun _ _ _ h => h) (by kernel_rfl) trivial (fun _ _ => by go_simp) ?_
  refine h_one 3 rfl (by kernel_rfl) (by kernel_rfl) (fun K hK => ?_)
  go_simp
  refine (comes_fail p b down f g hf w0 (HX0.out)).mono ?_
  rintro e w1 ⟨he1, hx1, hg1⟩
  rw [HAF.out] at he1; subst he1
  have HX1 := Lib.hid hx1
  have HG1 := Lib.hid hg1
  clear hx1 hg1
  refine hK _ _ trivial ?_
  clear hK K
  refine h_one 7 rfl (by kernel_rfl) (by kernel_rfl) (fun K hK => ?_)
  go_simp
  refine (comes_fall p b down (askLeft f) g hg w1 (HX1.out)).mono ?_
  rintro e w2 ⟨he2, hx2, hg2⟩
  rw [HAG.out] at he2; subst he2
  have HX2 := Lib.hid hx2
  have HG2 := Lib.hid hg2
  clear hx2 hg2
  refine hK _ _ trivial ?_
  clear hK K
  refine h_take 8 (.bool false) rfl (by kernel_rfl) (by kernel_rfl) (by kernel_rfl) (fun _ _ _ h => h) (by kernel_rfl) trivial (fun _ _ => by kernel_rfl) ?_
  refine h_take 9 (.bool true) rfl (by kernel_rfl) (by kernel_rfl) (by kernel_rfl) (fun _ _ _ h => h) (by kernel_rfl) trivial (fun _ _ => by kernel_rfl) ?_
  refine wpAnyH_done (by kernel_rfl) ?_ _
  go_simp
  have HW := Lib.hid (HG1.out.trans HG2.out)
  have HX := HX2
  generalize w2 = w5 at HX HW ⊢
  have hfz : w5.frozen? ⟨p, 1, none⟩ = false := at_frozen HX.out
  have hq1 := at_cell (i := 1) HX.out rfl
  have HS := Lib.hid (set_grown HX.out (i := 1) (.bool true))
  have HB : Hid (FsBox (w5.setCell ⟨p, 1, none⟩ (.bool true)) p b true (askLeft f) (askLeft g)) := HS.out.1
  have HGW : Hid (w.grownBy (w5.setCell ⟨p, 1, none⟩ (.bool true)) (some p)) := (grown_none HD0.out (HW.out.trans HS.out.2))
  go_wp2_with fail
  refine (HDO.out true _ HB.out HGW.out).mono ?_
  rintro e w7 ⟨rfl, hr⟩
  have HR := Lib.hid hr
  clear hr
  go_wp2
  go_ret
  exact ⟨_, HB.out, HGW.out, rfl, HR.out⟩

set_option maxRecDepth 100000 in
set_option maxHeartbeats 2000000 in
theorem act_ftf (p b : Nat) (down : Bool) (f g : Bool × Int) (hf : AskIn f) (hg : AskIn g) (ha1 : askNow f = false) (ha2 : askNow g = true) (k : FuncId) (hen : Enters Try.prog k) (caps : Array Value) (w : World) (h : FsBox w p b down f g) (R : World → World → Prop)
    (hdo : ∀ d W, FsBox W p b d (askLeft f) (askLeft g) → w.grownBy W (some p) → Calls Try.prog k caps W fun e w' => e = .returned (.tuple #[]) ∧ R W w') :
    Calls Try.prog 29 #[.pointer (some ⟨p, 0, none⟩), .bool false, .func (.func k) #[] caps] w fun e w' => ∃ W, FsBox W p b true (askLeft f) (askLeft g) ∧ w.grownBy W (some p) ∧ e = .returned (.int .i64 7) ∧ w' = W := by
  have HDO := Lib.hid hdo
  have hen2 : ∀ (args : Array Value) (w : World), (callFunc k args).run Try.prog w = .ok (.enter k args) w := hen
  have HAF := Lib.hid ha1
  have HAG := Lib.hid ha2
  clear hdo ha1 ha2
  go_enter Try.func29, Try.ntmps29
  go_wp2
  refine wp_region_held (S := fun _ => True) (by kernel_rfl) (show wpAnyH _ _ _ _ _ _ _ _ (w.drew) from ?_)
  have HX0 : Hid (FsBox w.drew p b down f g) := h
  have HD0 : Hid (w.grownBy w.drew none) := ⟨rfl, rfl, rfl, Nat.le_refl _, fun _ _ _ => rfl⟩
  clear h
  obtain ⟨w0, hw0⟩ : ∃ x, x = w.drew := ⟨_, rfl⟩
  rw [← hw0] at HX0 HD0 ⊢
  clear hw0
  refine h_take 0 (.pointer (some ⟨p, 0, none⟩)) rfl (by kernel_rfl) (by kernel_rfl) (by kernel_rfl) (fun _ _ _ h => h) (by kernel_rfl) trivial (fun _ _ => by kernel_rfl) ?_
  refine h_take 1 (.pointer (some ⟨p, 0, none⟩)) rfl (by kernel_rfl) (by kernel_rfl) (by kernel_rfl) (fun _ _ _ h => h) (by kernel_rfl) trivial (fun _ _ => by go_simp) ?_
  refine h_take 2 (.pointer (some ⟨p, 2, none⟩)) rfl (by kernel_rfl) (by kernel_rfl) (by kernel_rfl) (fun _ _ _ h => h) (by kernel_rfl) trivial (fun _ _ => by go_simp) ?_
  refine h_take 4 (.pointer (some ⟨p, 0, none⟩)) rfl (by kernel_rfl) (by kernel_rfl) (by kernel_rfl) (fun _ _ _ h => h) (by kernel_rfl) trivial (fun _ _ => by kernel_rfl) ?_
  refine h_take 5 (.pointer (some ⟨p, 0, none⟩)) rfl (by kernel_rfl) (by kernel_rfl) (by kernel_rfl) (fun _ _ _ h => h) (by kernel_rfl) trivial (fun _ _ => by go_simp) ?_
  refine h_take 6 (.pointer (some ⟨p, 4, none⟩)) rfl (by kernel_rfl) (by kernel_rfl) (by kernel_rfl) (fun _ _ _ h => h) (by kernel_rfl) trivial (fun _ _ => by go_simp) ?_
  refine h_one 3 rfl (by kernel_rfl) (by kernel_rfl) (fun K hK => ?_)
  go_simp
  refine (comes_fail p b down f g hf w0 (HX0.out)).mono ?_
  rintro e w1 ⟨he1, hx1, hg1⟩
  rw [HAF.out] at he1; subst he1
  have HX1 := Lib.hid hx1
  have HG1 := Lib.hid hg1
  clear hx1 hg1
  refine hK _ _ trivial ?_
  clear hK K
  refine h_one 7 rfl (by kernel_rfl) (by kernel_rfl) (fun K hK => ?_)
  go_simp
  refine (comes_fall p b down (askLeft f) g hg w1 (HX1.out)).mono ?_
  rintro e w2 ⟨he2, hx2, hg2⟩
  rw [HAG.out] at he2; subst he2
  have HX2 := Lib.hid hx2
  have HG2 := Lib.hid hg2
  clear hx2 hg2
  refine hK _ _ trivial ?_
  clear hK K
  refine h_take 8 (.bool false) rfl (by kernel_rfl) (by kernel_rfl) (by kernel_rfl) (fun _ _ _ h => h) (by kernel_rfl) trivial (fun _ _ => by kernel_rfl) ?_
  refine h_take 9 (.bool true) rfl (by kernel_rfl) (by kernel_rfl) (by kernel_rfl) (fun _ _ _ h => h) (by kernel_rfl) trivial (fun _ _ => by kernel_rfl) ?_
  refine wpAnyH_done (by kernel_rfl) ?_ _
  go_simp
  have HW := Lib.hid (HG1.out.trans HG2.out)
  have HX := HX2
  generalize w2 = w5 at HX HW ⊢
  have hfz : w5.frozen? ⟨p, 1, none⟩ = false := at_frozen HX.out
  have hq1 := at_cell (i := 1) HX.out rfl
  have HS := Lib.hid (set_grown HX.out (i := 1) (.bool true))
  have HB : Hid (FsBox (w5.setCell ⟨p, 1, none⟩ (.bool true)) p b true (askLeft f) (askLeft g)) := HS.out.1
  have HGW : Hid (w.grownBy (w5.setCell ⟨p, 1, none⟩ (.bool true)) (some p)) := (grown_none HD0.out (HW.out.trans HS.out.2))
  go_wp2
  go_ret
  exact ⟨_, HB.out, HGW.out, rfl, rfl⟩

set_option maxRecDepth 100000 in
set_option maxHeartbeats 2000000 in
theorem act_tft (p b : Nat) (down : Bool) (f g : Bool × Int) (hf : AskIn f) (hg : AskIn g) (ha1 : askNow f = true) (ha2 : askNow g = false) (k : FuncId) (hen : Enters Try.prog k) (caps : Array Value) (w : World) (h : FsBox w p b down f g) (R : World → World → Prop)
    (hdo : ∀ d W, FsBox W p b d (askLeft f) (askLeft g) → w.grownBy W (some p) → Calls Try.prog k caps W fun e w' => e = .returned (.tuple #[]) ∧ R W w') :
    Calls Try.prog 29 #[.pointer (some ⟨p, 0, none⟩), .bool true, .func (.func k) #[] caps] w fun e w' => ∃ W, FsBox W p b down (askLeft f) (askLeft g) ∧ w.grownBy W (some p) ∧ e = .returned (.int .i64 8) ∧ w' = W := by
  have HDO := Lib.hid hdo
  have hen2 : ∀ (args : Array Value) (w : World), (callFunc k args).run Try.prog w = .ok (.enter k args) w := hen
  have HAF := Lib.hid ha1
  have HAG := Lib.hid ha2
  clear hdo ha1 ha2
  go_enter Try.func29, Try.ntmps29
  go_wp2
  refine wp_region_held (S := fun _ => True) (by kernel_rfl) (show wpAnyH _ _ _ _ _ _ _ _ (w.drew) from ?_)
  have HX0 : Hid (FsBox w.drew p b down f g) := h
  have HD0 : Hid (w.grownBy w.drew none) := ⟨rfl, rfl, rfl, Nat.le_refl _, fun _ _ _ => rfl⟩
  clear h
  obtain ⟨w0, hw0⟩ : ∃ x, x = w.drew := ⟨_, rfl⟩
  rw [← hw0] at HX0 HD0 ⊢
  clear hw0
  refine h_take 0 (.pointer (some ⟨p, 0, none⟩)) rfl (by kernel_rfl) (by kernel_rfl) (by kernel_rfl) (fun _ _ _ h => h) (by kernel_rfl) trivial (fun _ _ => by kernel_rfl) ?_
  refine h_take 1 (.pointer (some ⟨p, 0, none⟩)) rfl (by kernel_rfl) (by kernel_rfl) (by kernel_rfl) (fun _ _ _ h => h) (by kernel_rfl) trivial (fun _ _ => by go_simp) ?_
  refine h_take 2 (.pointer (some ⟨p, 2, none⟩)) rfl (by kernel_rfl) (by kernel_rfl) (by kernel_rfl) (fun _ _ _ h => h) (by kernel_rfl) trivial (fun _ _ => by go_simp) ?_
  refine h_take 4 (.pointer (some ⟨p, 0, none⟩)) rfl (by kernel_rfl) (by kernel_rfl) (by kernel_rfl) (fun _ _ _ h => h) (by kernel_rfl) trivial (fun _ _ => by kernel_rfl) ?_
  refine h_take 5 (.pointer (some ⟨p, 0, none⟩)) rfl (by kernel_rfl) (by kernel_rfl) (by kernel_rfl) (fun _ _ _ h => h) (by kernel_rfl) trivial (fun _ _ => by go_simp) ?_
  refine h_take 6 (.pointer (some ⟨p, 4, none⟩)) rfl (by kernel_rfl) (by kernel_rfl) (by kernel_rfl) (fun _ _ _ h => h) (by kernel_rfl) trivial (fun _ _ => by go_simp) ?_
  refine h_one 3 rfl (by kernel_rfl) (by kernel_rfl) (fun K hK => ?_)
  go_simp
  refine (comes_fail p b down f g hf w0 (HX0.out)).mono ?_
  rintro e w1 ⟨he1, hx1, hg1⟩
  rw [HAF.out] at he1; subst he1
  have HX1 := Lib.hid hx1
  have HG1 := Lib.hid hg1
  clear hx1 hg1
  refine hK _ _ trivial ?_
  clear hK K
  refine h_one 7 rfl (by kernel_rfl) (by kernel_rfl) (fun K hK => ?_)
  go_simp
  refine (comes_fall p b down (askLeft f) g hg w1 (HX1.out)).mono ?_
  rintro e w2 ⟨he2, hx2, hg2⟩
  rw [HAG.out] at he2; subst he2
  have HX2 := Lib.hid hx2
  have HG2 := Lib.hid hg2
  clear hx2 hg2
  refine hK _ _ trivial ?_
  clear hK K
  refine h_take 8 (.bool true) rfl (by kernel_rfl) (by kernel_rfl) (by kernel_rfl) (fun _ _ _ h => h) (by kernel_rfl) trivial (fun _ _ => by kernel_rfl) ?_
  refine h_take 9 (.bool false) rfl (by kernel_rfl) (by kernel_rfl) (by kernel_rfl) (fun _ _ _ h => h) (by kernel_rfl) trivial (fun _ _ => by kernel_rfl) ?_
  refine wpAnyH_done (by kernel_rfl) ?_ _
  go_simp
  have HW := Lib.hid (HG1.out.trans HG2.out)
  have HX := HX2
  generalize w2 = w5 at HX HW ⊢
  have HB := HX
  have HGW : Hid (w.grownBy w5 (some p)) := grown_none HD0.out HW.out
  go_wp2
  go_ret
  exact ⟨_, HB.out, HGW.out, rfl, rfl⟩

set_option maxRecDepth 100000 in
set_option maxHeartbeats 2000000 in
theorem act_tff (p b : Nat) (down : Bool) (f g : Bool × Int) (hf : AskIn f) (hg : AskIn g) (ha1 : askNow f = true) (ha2 : askNow g = false) (k : FuncId) (hen : Enters Try.prog k) (caps : Array Value) (w : World) (h : FsBox w p b down f g) (R : World → World → Prop)
    (hdo : ∀ d W, FsBox W p b d (askLeft f) (askLeft g) → w.grownBy W (some p) → Calls Try.prog k caps W fun e w' => e = .returned (.tuple #[]) ∧ R W w') :
    Calls Try.prog 29 #[.pointer (some ⟨p, 0, none⟩), .bool false, .func (.func k) #[] caps] w fun e w' => ∃ W, FsBox W p b down (askLeft f) (askLeft g) ∧ w.grownBy W (some p) ∧ e = .returned (.int .i64 8) ∧ w' = W := by
  have HDO := Lib.hid hdo
  have hen2 : ∀ (args : Array Value) (w : World), (callFunc k args).run Try.prog w = .ok (.enter k args) w := hen
  have HAF := Lib.hid ha1
  have HAG := Lib.hid ha2
  clear hdo ha1 ha2
  go_enter Try.func29, Try.ntmps29
  go_wp2
  refine wp_region_held (S := fun _ => True) (by kernel_rfl) (show wpAnyH _ _ _ _ _ _ _ _ (w.drew) from ?_)
  have HX0 : Hid (FsBox w.drew p b down f g) := h
  have HD0 : Hid (w.grownBy w.drew none) := ⟨rfl, rfl, rfl, Nat.le_refl _, fun _ _ _ => rfl⟩
  clear h
  obtain ⟨w0, hw0⟩ : ∃ x, x = w.drew := ⟨_, rfl⟩
  rw [← hw0] at HX0 HD0 ⊢
  clear hw0
  refine h_take 0 (.pointer (some ⟨p, 0, none⟩)) rfl (by kernel_rfl) (by kernel_rfl) (by kernel_rfl) (fun _ _ _ h => h) (by kernel_rfl) trivial (fun _ _ => by kernel_rfl) ?_
  refine h_take 1 (.pointer (some ⟨p, 0, none⟩)) rfl (by kernel_rfl) (by kernel_rfl) (by kernel_rfl) (fun _ _ _ h => h) (by kernel_rfl) trivial (fun _ _ => by go_simp) ?_
  refine h_take 2 (.pointer (some ⟨p, 2, none⟩)) rfl (by kernel_rfl) (by kernel_rfl) (by kernel_rfl) (fun _ _ _ h => h) (by kernel_rfl) trivial (fun _ _ => by go_simp) ?_
  refine h_take 4 (.pointer (some ⟨p, 0, none⟩)) rfl (by kernel_rfl) (by kernel_rfl) (by kernel_rfl) (fun _ _ _ h => h) (by kernel_rfl) trivial (fun _ _ => by kernel_rfl) ?_
  refine h_take 5 (.pointer (some ⟨p, 0, none⟩)) rfl (by kernel_rfl) (by kernel_rfl) (by kernel_rfl) (fun _ _ _ h => h) (by kernel_rfl) trivial (fun _ _ => by go_simp) ?_
  refine h_take 6 (.pointer (some ⟨p, 4, none⟩)) rfl (by kernel_rfl) (by kernel_rfl) (by kernel_rfl) (fun _ _ _ h => h) (by kernel_rfl) trivial (fun _ _ => by go_simp) ?_
  refine h_one 3 rfl (by kernel_rfl) (by kernel_rfl) (fun K hK => ?_)
  go_simp
  refine (comes_fail p b down f g hf w0 (HX0.out)).mono ?_
  rintro e w1 ⟨he1, hx1, hg1⟩
  rw [HAF.out] at he1; subst he1
  have HX1 := Lib.hid hx1
  have HG1 := Lib.hid hg1
  clear hx1 hg1
  refine hK _ _ trivial ?_
  clear hK K
  refine h_one 7 rfl (by kernel_rfl) (by kernel_rfl) (fun K hK => ?_)
  go_simp
  refine (comes_fall p b down (askLeft f) g hg w1 (HX1.out)).mono ?_
  rintro e w2 ⟨he2, hx2, hg2⟩
  rw [HAG.out] at he2; subst he2
  have HX2 := Lib.hid hx2
  have HG2 := Lib.hid hg2
  clear hx2 hg2
  refine hK _ _ trivial ?_
  clear hK K
  refine h_take 8 (.bool true) rfl (by kernel_rfl) (by kernel_rfl) (by kernel_rfl) (fun _ _ _ h => h) (by kernel_rfl) trivial (fun _ _ => by kernel_rfl) ?_
  refine h_take 9 (.bool false) rfl (by kernel_rfl) (by kernel_rfl) (by kernel_rfl) (fun _ _ _ h => h) (by kernel_rfl) trivial (fun _ _ => by kernel_rfl) ?_
  refine wpAnyH_done (by kernel_rfl) ?_ _
  go_simp
  have HW := Lib.hid (HG1.out.trans HG2.out)
  have HX := HX2
  generalize w2 = w5 at HX HW ⊢
  have HB := HX
  have HGW : Hid (w.grownBy w5 (some p)) := grown_none HD0.out HW.out
  go_wp2
  go_ret
  exact ⟨_, HB.out, HGW.out, rfl, rfl⟩

set_option maxRecDepth 100000 in
set_option maxHeartbeats 2000000 in
theorem act_fft (p b : Nat) (down : Bool) (f g : Bool × Int) (hf : AskIn f) (hg : AskIn g) (ha1 : askNow f = false) (ha2 : askNow g = false) (k : FuncId) (hen : Enters Try.prog k) (caps : Array Value) (w : World) (h : FsBox w p b down f g) (R : World → World → Prop)
    (hdo : ∀ d W, FsBox W p b d (askLeft f) (askLeft g) → w.grownBy W (some p) → Calls Try.prog k caps W fun e w' => e = .returned (.tuple #[]) ∧ R W w') :
    Calls Try.prog 29 #[.pointer (some ⟨p, 0, none⟩), .bool true, .func (.func k) #[] caps] w fun e w' => ∃ W, FsBox W p b down (askLeft f) (askLeft g) ∧ w.grownBy W (some p) ∧ e = .returned (.int .i64 0) ∧ R W w' := by
  have HDO := Lib.hid hdo
  have hen2 : ∀ (args : Array Value) (w : World), (callFunc k args).run Try.prog w = .ok (.enter k args) w := hen
  have HAF := Lib.hid ha1
  have HAG := Lib.hid ha2
  clear hdo ha1 ha2
  go_enter Try.func29, Try.ntmps29
  go_wp2
  refine wp_region_held (S := fun _ => True) (by kernel_rfl) (show wpAnyH _ _ _ _ _ _ _ _ (w.drew) from ?_)
  have HX0 : Hid (FsBox w.drew p b down f g) := h
  have HD0 : Hid (w.grownBy w.drew none) := ⟨rfl, rfl, rfl, Nat.le_refl _, fun _ _ _ => rfl⟩
  clear h
  obtain ⟨w0, hw0⟩ : ∃ x, x = w.drew := ⟨_, rfl⟩
  rw [← hw0] at HX0 HD0 ⊢
  clear hw0
  refine h_take 0 (.pointer (some ⟨p, 0, none⟩)) rfl (by kernel_rfl) (by kernel_rfl) (by kernel_rfl) (fun _ _ _ h => h) (by kernel_rfl) trivial (fun _ _ => by kernel_rfl) ?_
  refine h_take 1 (.pointer (some ⟨p, 0, none⟩)) rfl (by kernel_rfl) (by kernel_rfl) (by kernel_rfl) (fun _ _ _ h => h) (by kernel_rfl) trivial (fun _ _ => by go_simp) ?_
  refine h_take 2 (.pointer (some ⟨p, 2, none⟩)) rfl (by kernel_rfl) (by kernel_rfl) (by kernel_rfl) (fun _ _ _ h => h) (by kernel_rfl) trivial (fun _ _ => by go_simp) ?_
  refine h_take 4 (.pointer (some ⟨p, 0, none⟩)) rfl (by kernel_rfl) (by kernel_rfl) (by kernel_rfl) (fun _ _ _ h => h) (by kernel_rfl) trivial (fun _ _ => by kernel_rfl) ?_
  refine h_take 5 (.pointer (some ⟨p, 0, none⟩)) rfl (by kernel_rfl) (by kernel_rfl) (by kernel_rfl) (fun _ _ _ h => h) (by kernel_rfl) trivial (fun _ _ => by go_simp) ?_
  refine h_take 6 (.pointer (some ⟨p, 4, none⟩)) rfl (by kernel_rfl) (by kernel_rfl) (by kernel_rfl) (fun _ _ _ h => h) (by kernel_rfl) trivial (fun _ _ => by go_simp) ?_
  refine h_one 3 rfl (by kernel_rfl) (by kernel_rfl) (fun K hK => ?_)
  go_simp
  refine (comes_fail p b down f g hf w0 (HX0.out)).mono ?_
  rintro e w1 ⟨he1, hx1, hg1⟩
  rw [HAF.out] at he1; subst he1
  have HX1 := Lib.hid hx1
  have HG1 := Lib.hid hg1
  clear hx1 hg1
  refine hK _ _ trivial ?_
  clear hK K
  refine h_one 7 rfl (by kernel_rfl) (by kernel_rfl) (fun K hK => ?_)
  go_simp
  refine (comes_fall p b down (askLeft f) g hg w1 (HX1.out)).mono ?_
  rintro e w2 ⟨he2, hx2, hg2⟩
  rw [HAG.out] at he2; subst he2
  have HX2 := Lib.hid hx2
  have HG2 := Lib.hid hg2
  clear hx2 hg2
  refine hK _ _ trivial ?_
  clear hK K
  refine h_take 8 (.bool false) rfl (by kernel_rfl) (by kernel_rfl) (by kernel_rfl) (fun _ _ _ h => h) (by kernel_rfl) trivial (fun _ _ => by kernel_rfl) ?_
  refine h_take 9 (.bool false) rfl (by kernel_rfl) (by kernel_rfl) (by kernel_rfl) (fun _ _ _ h => h) (by kernel_rfl) trivial (fun _ _ => by kernel_rfl) ?_
  refine wpAnyH_done (by kernel_rfl) ?_ _
  go_simp
  have HW := Lib.hid (HG1.out.trans HG2.out)
  have HX := HX2
  generalize w2 = w5 at HX HW ⊢
  have HB := HX
  have HGW : Hid (w.grownBy w5 (some p)) := grown_none HD0.out HW.out
  go_wp2_with fail
  refine (HDO.out down _ HB.out HGW.out).mono ?_
  rintro e w7 ⟨rfl, hr⟩
  have HR := Lib.hid hr
  clear hr
  go_wp2
  go_ret
  exact ⟨_, HB.out, HGW.out, rfl, HR.out⟩

set_option maxRecDepth 100000 in
set_option maxHeartbeats 2000000 in
theorem act_fff (p b : Nat) (down : Bool) (f g : Bool × Int) (hf : AskIn f) (hg : AskIn g) (ha1 : askNow f = false) (ha2 : askNow g = false) (k : FuncId) (hen : Enters Try.prog k) (caps : Array Value) (w : World) (h : FsBox w p b down f g) (R : World → World → Prop)
    (hdo : ∀ d W, FsBox W p b d (askLeft f) (askLeft g) → w.grownBy W (some p) → Calls Try.prog k caps W fun e w' => e = .returned (.tuple #[]) ∧ R W w') :
    Calls Try.prog 29 #[.pointer (some ⟨p, 0, none⟩), .bool false, .func (.func k) #[] caps] w fun e w' => ∃ W, FsBox W p b down (askLeft f) (askLeft g) ∧ w.grownBy W (some p) ∧ e = .returned (.int .i64 0) ∧ R W w' := by
  have HDO := Lib.hid hdo
  have hen2 : ∀ (args : Array Value) (w : World), (callFunc k args).run Try.prog w = .ok (.enter k args) w := hen
  have HAF := Lib.hid ha1
  have HAG := Lib.hid ha2
  clear hdo ha1 ha2
  go_enter Try.func29, Try.ntmps29
  go_wp2
  refine wp_region_held (S := fun _ => True) (by kernel_rfl) (show wpAnyH _ _ _ _ _ _ _ _ (w.drew) from ?_)
  have HX0 : Hid (FsBox w.drew p b down f g) := h
  have HD0 : Hid (w.grownBy w.drew none) := ⟨rfl, rfl, rfl, Nat.le_refl _, fun _ _ _ => rfl⟩
  clear h
  obtain ⟨w0, hw0⟩ : ∃ x, x = w.drew := ⟨_, rfl⟩
  rw [← hw0] at HX0 HD0 ⊢
  clear hw0
  refine h_take 0 (.pointer (some ⟨p, 0, none⟩)) rfl (by kernel_rfl) (by kernel_rfl) (by kernel_rfl) (fun _ _ _ h => h) (by kernel_rfl) trivial (fun _ _ => by kernel_rfl) ?_
  refine h_take 1 (.pointer (some ⟨p, 0, none⟩)) rfl (by kernel_rfl) (by kernel_rfl) (by kernel_rfl) (fun _ _ _ h => h) (by kernel_rfl) trivial (fun _ _ => by go_simp) ?_
  refine h_take 2 (.pointer (some ⟨p, 2, none⟩)) rfl (by kernel_rfl) (by kernel_rfl) (by kernel_rfl) (fun _ _ _ h => h) (by kernel_rfl) trivial (fun _ _ => by go_simp) ?_
  refine h_take 4 (.pointer (some ⟨p, 0, none⟩)) rfl (by kernel_rfl) (by kernel_rfl) (by kernel_rfl) (fun _ _ _ h => h) (by kernel_rfl) trivial (fun _ _ => by kernel_rfl) ?_
  refine h_take 5 (.pointer (some ⟨p, 0, none⟩)) rfl (by kernel_rfl) (by kernel_rfl) (by kernel_rfl) (fun _ _ _ h => h) (by kernel_rfl) trivial (fun _ _ => by go_simp) ?_
  refine h_take 6 (.pointer (some ⟨p, 4, none⟩)) rfl (by kernel_rfl) (by kernel_rfl) (by kernel_rfl) (fun _ _ _ h => h) (by kernel_rfl) trivial (fun _ _ => by go_simp) ?_
  refine h_one 3 rfl (by kernel_rfl) (by kernel_rfl) (fun K hK => ?_)
  go_simp
  refine (comes_fail p b down f g hf w0 (HX0.out)).mono ?_
  rintro e w1 ⟨he1, hx1, hg1⟩
  rw [HAF.out] at he1; subst he1
  have HX1 := Lib.hid hx1
  have HG1 := Lib.hid hg1
  clear hx1 hg1
  refine hK _ _ trivial ?_
  clear hK K
  refine h_one 7 rfl (by kernel_rfl) (by kernel_rfl) (fun K hK => ?_)
  go_simp
  refine (comes_fall p b down (askLeft f) g hg w1 (HX1.out)).mono ?_
  rintro e w2 ⟨he2, hx2, hg2⟩
  rw [HAG.out] at he2; subst he2
  have HX2 := Lib.hid hx2
  have HG2 := Lib.hid hg2
  clear hx2 hg2
  refine hK _ _ trivial ?_
  clear hK K
  refine h_take 8 (.bool false) rfl (by kernel_rfl) (by kernel_rfl) (by kernel_rfl) (fun _ _ _ h => h) (by kernel_rfl) trivial (fun _ _ => by kernel_rfl) ?_
  refine h_take 9 (.bool false) rfl (by kernel_rfl) (by kernel_rfl) (by kernel_rfl) (fun _ _ _ h => h) (by kernel_rfl) trivial (fun _ _ => by kernel_rfl) ?_
  refine wpAnyH_done (by kernel_rfl) ?_ _
  go_simp
  have HW := Lib.hid (HG1.out.trans HG2.out)
  have HX := HX2
  generalize w2 = w5 at HX HW ⊢
  have HB := HX
  have HGW : Hid (w.grownBy w5 (some p)) := grown_none HD0.out HW.out
  go_wp2_with fail
  refine (HDO.out down _ HB.out HGW.out).mono ?_
  rintro e w7 ⟨rfl, hr⟩
  have HR := Lib.hid hr
  clear hr
  go_wp2
  go_ret
  exact ⟨_, HB.out, HGW.out, rfl, HR.out⟩

end Go.Proofs.Ytfgonihpakcbbaa
