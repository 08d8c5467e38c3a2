/- The walks of byteAt, of take, and of what takes one thing: a byte, a number, a text. -/
import Derived.Test.YtkpgnpiofhgcpaaJb
import Derived.Test.YtkpgnpiofhgcpaaBc
namespace Go.Proofs.Ytkpgnpiofhgcpaa
open Go.RowKit

def rby (r : UInt8 × Nat × Nat) : Value := .tuple #[.int .u8 (r.1.toNat : Int), .int .i64 (r.2.1 : Int), .int .i64 (r.2.2 : Int)]

set_option maxRecDepth 100000 in
theorem byteAt_any (A : Option Addr) (n cap B : Nat) (c : Cu) (hn : n ≤ 1000000) (hok : c.at_ ≤ n) (w : World) (hr : Reads w B 1 A n (c.bs.map bv)) :
    Calls Try.prog 31 #[.slice A n cap, .int .i64 (c.at_ : Int)] w fun e w' => e = .returned (rby c.byR) ∧ w = w' := by
  have hl : c.bs.length = n := by have := hr.1; simpa using this
  by_cases h : c.at_ < n
  · obtain ⟨ad, u, rfl, _, hx, hcell⟩ := hr.at_ h
    obtain ⟨x, rfl, hd⟩ := byte_at hx
    have e : c.byR = (x, c.at_ + 1, 0) := by rw [Cu.byR, hd]
    have hv : rby (x, c.at_ + 1, 0) = .tuple #[.int .u8 (x.toNat : Int), .int .i64 ((c.at_ : Int) + 1), .int .i64 0] := by rw [rby]; simp
    rw [e, hv]
    generalize c.at_ = k at *
    generalize (x.toNat : Int) = v at *
    clear hx hd hr e hv hl
    go_enter Try.func31, Try.ntmps31
    go_wp2
    go_ret3
    exact ⟨rfl, rfl⟩
  · have e : c.byR = (0, 0, 2) := by rw [Cu.byR, List.drop_eq_nil_of_le (by omega)]
    have hv : rby (0, 0, 2) = .tuple #[.int .u8 0, .int .i64 0, .int .i64 2] := rfl
    rw [e, hv]
    have hk : c.at_ = n := by omega
    rw [hk]
    clear hr e hv hl hok h hk
    go_enter Try.func31, Try.ntmps31
    go_wp2
    go_ret3
    exact ⟨rfl, rfl⟩

set_option maxRecDepth 100000 in
set_option maxHeartbeats 800000 in
theorem take_byte (B b : Nat) (c : Cu) (w : World) (h : CurIn w B b c) :
    Calls Try.prog 30 #[.pointer (some ⟨b, 0, none⟩), .func (.func 31) #[] #[]] w fun e w' => e = .returned (Value.int .u8 ((c.byte.1).toNat : Int)) ∧ CurIn w' B b c.byte.2 ∧ Only b w w' := by
  have hok := h.ok
  have hrm := h.room
  have hlt := h.lt
  obtain ⟨A, n, cap, hnc, hl, hr, f0, f1, f2, z1, _⟩ := h.cells
  by_cases h0 : c.e = 0
  · have hg : ∀ W, Below w.heap.size w W → Calls Try.prog 31 #[.slice A n cap, .int .i64 (c.at_ : Int)] W fun e w' => e = .returned (.tuple #[.int .u8 (c.byR.1.toNat : Int), .int .i64 (c.byR.2.1 : Int), .int .i64 (c.byR.2.2 : Int)]) ∧ W = w' :=
      fun W hW => byteAt_any A n cap B c (by omega) (by rw [← hl]; exact hok) W (hr.below (hW.mono (by have := h.le; omega)))
    have HC0 : Hid (∀ w', Below w.heap.size w w' → w'.cell? ⟨b, 0, none⟩ = some (.slice A n cap)) := fun w' hb => (hb.cell (p := ⟨b, 0, none⟩) hlt).trans f0
    have HC1 : Hid (∀ w', Below w.heap.size w w' → w'.cell? ⟨b, 1, none⟩ = some (.int .i64 (c.at_ : Int))) := fun w' hb => (hb.cell (p := ⟨b, 1, none⟩) hlt).trans f1
    rw [h0] at f2
    have hS : Below w.heap.size w w.drew := (Below.refl _ w).drew
    have hd := h.below hS hlt
    have hin : c.byR.2.2 = 0 → c.byR.2.1 ≤ c.bs.length := fun he => (Cu.byR_in hok he).2
    by_cases h1 : c.byR.2.2 = 0
    · have e1 : c.byte.1 = c.byR.1 := by simp only [Cu.byte, Cu.tk, h0, h1, if_true]
      have e2 : c.byte.2 = { c with at_ := c.byR.2.1 } := by simp only [Cu.byte, Cu.tk, h0, h1, if_true]
      rw [e1, e2]
      rw [h1] at hg
      have hset := hd.setAt c.byR.2.1 (hin h1)
      clear e1 e2 h h0 h1 hin hok hrm hl hr hnc hd f0 f1
      generalize c.at_ = x at *
      generalize c.byR.2.1 = y at *
      generalize Value.int .u8 ((c.byR.1).toNat : Int) = v at *
      have z1' : w.drew.frozen? ⟨b, 1, none⟩ = false := z1
      have c1' := HC1.out _ hS
      have HG := Lib.hid hg
      have HSET := Lib.hid hset
      clear hg hset z1 hlt
      go_enter Try.func30, Try.ntmps30
      go_wp2
      refine wp_region_held (S := fun W => Below w.heap.size w W) (by kernel_rfl) ?_
      refine h_take 0 (.func (.func 31) #[] #[]) rfl (by kernel_rfl) (by kernel_rfl) (by kernel_rfl) (fun _ _ _ h => h) (by kernel_rfl) hS (fun _ _ => by kernel_rfl) ?_
      refine h_take 1 (.pointer (some ⟨b, 0, none⟩)) rfl (by kernel_rfl) (by kernel_rfl) (by kernel_rfl) (fun _ _ _ h => h) (by kernel_rfl) hS (fun _ _ => by kernel_rfl) ?_
      refine h_take 2 (.pointer (some ⟨b, 0, none⟩)) rfl (by kernel_rfl) (by kernel_rfl) (by kernel_rfl) (fun _ _ _ h => h) (by kernel_rfl) hS (by intro w' hb; go_simp) ?_
      refine h_take 3 (.pointer (some ⟨b, 0, none⟩)) rfl (by kernel_rfl) (by kernel_rfl) (by kernel_rfl) (fun _ _ _ h => h) (by kernel_rfl) hS (by intro w' hb; go_simp) ?_
      refine h_take 4 (.slice A n cap) rfl (by kernel_rfl) (by kernel_rfl) (by kernel_rfl) (fun _ _ _ h => h) (by kernel_rfl) hS (by intro w' hb; have c0 := HC0.out w' hb; go_simp) ?_
      refine h_take 5 (.pointer (some ⟨b, 0, none⟩)) rfl (by kernel_rfl) (by kernel_rfl) (by kernel_rfl) (fun _ _ _ h => h) (by kernel_rfl) hS (fun _ _ => by kernel_rfl) ?_
      refine h_take 6 (.pointer (some ⟨b, 0, none⟩)) rfl (by kernel_rfl) (by kernel_rfl) (by kernel_rfl) (fun _ _ _ h => h) (by kernel_rfl) hS (by intro w' hb; go_simp) ?_
      refine h_take 7 (.pointer (some ⟨b, 1, none⟩)) rfl (by kernel_rfl) (by kernel_rfl) (by kernel_rfl) (fun _ _ _ h => h) (by kernel_rfl) hS (by intro w' hb; go_simp) ?_
      refine h_take 8 (.int .i64 (x : Int)) rfl (by kernel_rfl) (by kernel_rfl) (by kernel_rfl) (fun _ _ _ h => h) (by kernel_rfl) hS (by intro w' hb; have c1 := HC1.out w' hb; go_simp) ?_
      refine h_one 9 rfl (by kernel_rfl) (by kernel_rfl) (fun K hK => ?_)
      go_simp
      refine (HG.out _ hS).mono ?_
      rintro e w1 ⟨rfl, rfl⟩
      refine hK _ _ hS ?_
      clear hK K
      refine h_take 10 (.tuple #[v, .int .i64 (y : Int), .int .i64 0]) rfl (by kernel_rfl) (by kernel_rfl) (by kernel_rfl) (fun _ _ _ h => h) (by kernel_rfl) hS (fun _ _ => by kernel_rfl) ?_
      refine h_take 11 (v) rfl (by kernel_rfl) (by kernel_rfl) (by kernel_rfl) (fun _ _ _ h => h) (by kernel_rfl) hS (by intro w' hb; go_simp) ?_
      refine h_take 12 (.int .i64 (y : Int)) rfl (by kernel_rfl) (by kernel_rfl) (by kernel_rfl) (fun _ _ _ h => h) (by kernel_rfl) hS (by intro w' hb; go_simp) ?_
      refine h_take 13 (.int .i64 0) rfl (by kernel_rfl) (by kernel_rfl) (by kernel_rfl) (fun _ _ _ h => h) (by kernel_rfl) hS (by intro w' hb; go_simp) ?_
      refine h_take 14 (v) rfl (by kernel_rfl) (by kernel_rfl) (by kernel_rfl) (fun _ _ _ h => h) (by kernel_rfl) hS (fun _ _ => by kernel_rfl) ?_
      refine h_take 15 (.int .i64 (y : Int)) rfl (by kernel_rfl) (by kernel_rfl) (by kernel_rfl) (fun _ _ _ h => h) (by kernel_rfl) hS (fun _ _ => by kernel_rfl) ?_
      refine h_take 16 (.int .i64 0) rfl (by kernel_rfl) (by kernel_rfl) (by kernel_rfl) (fun _ _ _ h => h) (by kernel_rfl) hS (fun _ _ => by kernel_rfl) ?_
      refine wpAnyH_done (by kernel_rfl) ?_ _
      go_simp
      go_wp2
      go_ret
      exact ⟨rfl, HSET.out, (Only.of_below hS).trans (Only.setCell _)⟩
    · have e1 : c.byte.1 = 0 := by simp only [Cu.byte, Cu.tk, h0, if_true, if_neg h1]
      have e2 : c.byte.2 = c.fail (c.byR.2.2 : Int) := by simp only [Cu.byte, Cu.tk, Cu.fail, h0, if_true, if_neg h1]
      rw [e1, e2]
      have hfail := fail_any B b c (c.byR.2.2 : Int) w.drew hd
      clear e1 e2 h h0 hin hok hrm hl hr hnc hd f0 f1
      generalize c.fail (c.byR.2.2 : Int) = c9 at *
      generalize c.at_ = x at *
      generalize c.byR.2.1 = y at *
      generalize c.byR.2.2 = e0 at *
      generalize Value.int .u8 ((c.byR.1).toNat : Int) = v at *
      have HG := Lib.hid hg
      have HF := Lib.hid hfail
      have hne : ¬ ((e0 : Int) = 0) := by omega
      clear hg hfail hlt
      go_enter Try.func30, Try.ntmps30
      go_wp2
      refine wp_region_held (S := fun W => Below w.heap.size w W) (by kernel_rfl) ?_
      refine h_take 0 (.func (.func 31) #[] #[]) rfl (by kernel_rfl) (by kernel_rfl) (by kernel_rfl) (fun _ _ _ h => h) (by kernel_rfl) hS (fun _ _ => by kernel_rfl) ?_
      refine h_take 1 (.pointer (some ⟨b, 0, none⟩)) rfl (by kernel_rfl) (by kernel_rfl) (by kernel_rfl) (fun _ _ _ h => h) (by kernel_rfl) hS (fun _ _ => by kernel_rfl) ?_
      refine h_take 2 (.pointer (some ⟨b, 0, none⟩)) rfl (by kernel_rfl) (by kernel_rfl) (by kernel_rfl) (fun _ _ _ h => h) (by kernel_rfl) hS (by intro w' hb; go_simp) ?_
      refine h_take 3 (.pointer (some ⟨b, 0, none⟩)) rfl (by kernel_rfl) (by kernel_rfl) (by kernel_rfl) (fun _ _ _ h => h) (by kernel_rfl) hS (by intro w' hb; go_simp) ?_
      refine h_take 4 (.slice A n cap) rfl (by kernel_rfl) (by kernel_rfl) (by kernel_rfl) (fun _ _ _ h => h) (by kernel_rfl) hS (by intro w' hb; have c0 := HC0.out w' hb; go_simp) ?_
      refine h_take 5 (.pointer (some ⟨b, 0, none⟩)) rfl (by kernel_rfl) (by kernel_rfl) (by kernel_rfl) (fun _ _ _ h => h) (by kernel_rfl) hS (fun _ _ => by kernel_rfl) ?_
      refine h_take 6 (.pointer (some ⟨b, 0, none⟩)) rfl (by kernel_rfl) (by kernel_rfl) (by kernel_rfl) (fun _ _ _ h => h) (by kernel_rfl) hS (by intro w' hb; go_simp) ?_
      refine h_take 7 (.pointer (some ⟨b, 1, none⟩)) rfl (by kernel_rfl) (by kernel_rfl) (by kernel_rfl) (fun _ _ _ h => h) (by kernel_rfl) hS (by intro w' hb; go_simp) ?_
      refine h_take 8 (.int .i64 (x : Int)) rfl (by kernel_rfl) (by kernel_rfl) (by kernel_rfl) (fun _ _ _ h => h) (by kernel_rfl) hS (by intro w' hb; have c1 := HC1.out w' hb; go_simp) ?_
      refine h_one 9 rfl (by kernel_rfl) (by kernel_rfl) (fun K hK => ?_)
      go_simp
      refine (HG.out _ hS).mono ?_
      rintro e w1 ⟨rfl, rfl⟩
      refine hK _ _ hS ?_
      clear hK K
      refine h_take 10 (.tuple #[v, .int .i64 (y : Int), .int .i64 (e0 : Int)]) rfl (by kernel_rfl) (by kernel_rfl) (by kernel_rfl) (fun _ _ _ h => h) (by kernel_rfl) hS (fun _ _ => by kernel_rfl) ?_
      refine h_take 11 (v) rfl (by kernel_rfl) (by kernel_rfl) (by kernel_rfl) (fun _ _ _ h => h) (by kernel_rfl) hS (by intro w' hb; go_simp) ?_
      refine h_take 12 (.int .i64 (y : Int)) rfl (by kernel_rfl) (by kernel_rfl) (by kernel_rfl) (fun _ _ _ h => h) (by kernel_rfl) hS (by intro w' hb; go_simp) ?_
      refine h_take 13 (.int .i64 (e0 : Int)) rfl (by kernel_rfl) (by kernel_rfl) (by kernel_rfl) (fun _ _ _ h => h) (by kernel_rfl) hS (by intro w' hb; go_simp) ?_
      refine h_take 14 (v) rfl (by kernel_rfl) (by kernel_rfl) (by kernel_rfl) (fun _ _ _ h => h) (by kernel_rfl) hS (fun _ _ => by kernel_rfl) ?_
      refine h_take 15 (.int .i64 (y : Int)) rfl (by kernel_rfl) (by kernel_rfl) (by kernel_rfl) (fun _ _ _ h => h) (by kernel_rfl) hS (fun _ _ => by kernel_rfl) ?_
      refine h_take 16 (.int .i64 (e0 : Int)) rfl (by kernel_rfl) (by kernel_rfl) (by kernel_rfl) (fun _ _ _ h => h) (by kernel_rfl) hS (fun _ _ => by kernel_rfl) ?_
      refine wpAnyH_done (by kernel_rfl) ?_ _
      go_simp
      go_wp2_with fail
      refine HF.out.mono ?_
      rintro e w2 ⟨rfl, hc2, ho2⟩
      go_wp2
      go_ret
      exact ⟨rfl, hc2, (Only.of_below hS).trans ho2⟩
  · have e1 : c.byte = (0, c) := Cu.tk_e h0
    rw [e1]
    generalize c.e = x at f2 h0
    have H := Lib.hid h
    clear e1 h hok hrm hlt hl hr f0 f1 z1
    go_enter Try.func30, Try.ntmps30
    go_wp2
    go_ret
    exact ⟨rfl, H.out, Only.refl _ _⟩

set_option maxRecDepth 100000 in
set_option maxHeartbeats 800000 in
theorem take_num (B b : Nat) (c : Cu) (w : World) (h : CurIn w B b c) :
    Calls Try.prog 32 #[.pointer (some ⟨b, 0, none⟩), .func (.func 33) #[] #[]] w fun e w' => e = .returned (Value.int .u64 ((c.num.1 : Nat) : Int)) ∧ CurIn w' B b c.num.2 ∧ Only b w w' := by
  have hok := h.ok
  have hrm := h.room
  have hlt := h.lt
  obtain ⟨A, n, cap, hnc, hl, hr, f0, f1, f2, z1, _⟩ := h.cells
  by_cases h0 : c.e = 0
  · have hg : ∀ W, Below w.heap.size w W → Calls Try.prog 33 #[.slice A n cap, .int .i64 (c.at_ : Int)] W fun e w' => e = .returned (.tuple #[.int .u64 (c.nuR.1 : Int), .int .i64 (c.nuR.2.1 : Int), .int .i64 (c.nuR.2.2 : Int)]) ∧ W = w' :=
      fun W hW => get_any A n cap c.at_ B c.bs hnc (by omega) (by rw [← hl]; exact hok) W (hr.below (hW.mono (by have := h.le; omega)))
    have HC0 : Hid (∀ w', Below w.heap.size w w' → w'.cell? ⟨b, 0, none⟩ = some (.slice A n cap)) := fun w' hb => (hb.cell (p := ⟨b, 0, none⟩) hlt).trans f0
    have HC1 : Hid (∀ w', Below w.heap.size w w' → w'.cell? ⟨b, 1, none⟩ = some (.int .i64 (c.at_ : Int))) := fun w' hb => (hb.cell (p := ⟨b, 1, none⟩) hlt).trans f1
    rw [h0] at f2
    have hS : Below w.heap.size w w.drew := (Below.refl _ w).drew
    have hd := h.below hS hlt
    have hin : c.nuR.2.2 = 0 → c.nuR.2.1 ≤ c.bs.length := fun he => (Cu.nuR_in hok he).2
    by_cases h1 : c.nuR.2.2 = 0
    · have e1 : c.num.1 = c.nuR.1 := by simp only [Cu.num, Cu.tk, h0, h1, if_true]
      have e2 : c.num.2 = { c with at_ := c.nuR.2.1 } := by simp only [Cu.num, Cu.tk, h0, h1, if_true]
      rw [e1, e2]
      rw [h1] at hg
      have hset := hd.setAt c.nuR.2.1 (hin h1)
      clear e1 e2 h h0 h1 hin hok hrm hl hr hnc hd f0 f1
      generalize c.at_ = x at *
      generalize c.nuR.2.1 = y at *
      generalize Value.int .u64 ((c.nuR.1 : Nat) : Int) = v at *
      have z1' : w.drew.frozen? ⟨b, 1, none⟩ = false := z1
      have c1' := HC1.out _ hS
      have HG := Lib.hid hg
      have HSET := Lib.hid hset
      clear hg hset z1 hlt
      go_enter Try.func32, Try.ntmps32
      go_wp2
      refine wp_region_held (S := fun W => Below w.heap.size w W) (by kernel_rfl) ?_
      refine h_take 0 (.func (.func 33) #[] #[]) rfl (by kernel_rfl) (by kernel_rfl) (by kernel_rfl) (fun _ _ _ h => h) (by kernel_rfl) hS (fun _ _ => by kernel_rfl) ?_
      refine h_take 1 (.pointer (some ⟨b, 0, none⟩)) rfl (by kernel_rfl) (by kernel_rfl) (by kernel_rfl) (fun _ _ _ h => h) (by kernel_rfl) hS (fun _ _ => by kernel_rfl) ?_
      refine h_take 2 (.pointer (some ⟨b, 0, none⟩)) rfl (by kernel_rfl) (by kernel_rfl) (by kernel_rfl) (fun _ _ _ h => h) (by kernel_rfl) hS (by intro w' hb; go_simp) ?_
      refine h_take 3 (.pointer (some ⟨b, 0, none⟩)) rfl (by kernel_rfl) (by kernel_rfl) (by kernel_rfl) (fun _ _ _ h => h) (by kernel_rfl) hS (by intro w' hb; go_simp) ?_
      refine h_take 4 (.slice A n cap) rfl (by kernel_rfl) (by kernel_rfl) (by kernel_rfl) (fun _ _ _ h => h) (by kernel_rfl) hS (by intro w' hb; have c0 := HC0.out w' hb; go_simp) ?_
      refine h_take 5 (.pointer (some ⟨b, 0, none⟩)) rfl (by kernel_rfl) (by kernel_rfl) (by kernel_rfl) (fun _ _ _ h => h) (by kernel_rfl) hS (fun _ _ => by kernel_rfl) ?_
      refine h_take 6 (.pointer (some ⟨b, 0, none⟩)) rfl (by kernel_rfl) (by kernel_rfl) (by kernel_rfl) (fun _ _ _ h => h) (by kernel_rfl) hS (by intro w' hb; go_simp) ?_
      refine h_take 7 (.pointer (some ⟨b, 1, none⟩)) rfl (by kernel_rfl) (by kernel_rfl) (by kernel_rfl) (fun _ _ _ h => h) (by kernel_rfl) hS (by intro w' hb; go_simp) ?_
      refine h_take 8 (.int .i64 (x : Int)) rfl (by kernel_rfl) (by kernel_rfl) (by kernel_rfl) (fun _ _ _ h => h) (by kernel_rfl) hS (by intro w' hb; have c1 := HC1.out w' hb; go_simp) ?_
      refine h_one 9 rfl (by kernel_rfl) (by kernel_rfl) (fun K hK => ?_)
      go_simp
      refine (HG.out _ hS).mono ?_
      rintro e w1 ⟨rfl, rfl⟩
      refine hK _ _ hS ?_
      clear hK K
      refine h_take 10 (.tuple #[v, .int .i64 (y : Int), .int .i64 0]) rfl (by kernel_rfl) (by kernel_rfl) (by kernel_rfl) (fun _ _ _ h => h) (by kernel_rfl) hS (fun _ _ => by kernel_rfl) ?_
      refine h_take 11 (v) rfl (by kernel_rfl) (by kernel_rfl) (by kernel_rfl) (fun _ _ _ h => h) (by kernel_rfl) hS (by intro w' hb; go_simp) ?_
      refine h_take 12 (.int .i64 (y : Int)) rfl (by kernel_rfl) (by kernel_rfl) (by kernel_rfl) (fun _ _ _ h => h) (by kernel_rfl) hS (by intro w' hb; go_simp) ?_
      refine h_take 13 (.int .i64 0) rfl (by kernel_rfl) (by kernel_rfl) (by kernel_rfl) (fun _ _ _ h => h) (by kernel_rfl) hS (by intro w' hb; go_simp) ?_
      refine h_take 14 (v) rfl (by kernel_rfl) (by kernel_rfl) (by kernel_rfl) (fun _ _ _ h => h) (by kernel_rfl) hS (fun _ _ => by kernel_rfl) ?_
      refine h_take 15 (.int .i64 (y : Int)) rfl (by kernel_rfl) (by kernel_rfl) (by kernel_rfl) (fun _ _ _ h => h) (by kernel_rfl) hS (fun _ _ => by kernel_rfl) ?_
      refine h_take 16 (.int .i64 0) rfl (by kernel_rfl) (by kernel_rfl) (by kernel_rfl) (fun _ _ _ h => h) (by kernel_rfl) hS (fun _ _ => by kernel_rfl) ?_
      refine wpAnyH_done (by kernel_rfl) ?_ _
      go_simp
      go_wp2
      go_ret
      exact ⟨rfl, HSET.out, (Only.of_below hS).trans (Only.setCell _)⟩
    · have e1 : c.num.1 = 0 := by simp only [Cu.num, Cu.tk, h0, if_true, if_neg h1]
      have e2 : c.num.2 = c.fail (c.nuR.2.2 : Int) := by simp only [Cu.num, Cu.tk, Cu.fail, h0, if_true, if_neg h1]
      rw [e1, e2]
      have hfail := fail_any B b c (c.nuR.2.2 : Int) w.drew hd
      clear e1 e2 h h0 hin hok hrm hl hr hnc hd f0 f1
      generalize c.fail (c.nuR.2.2 : Int) = c9 at *
      generalize c.at_ = x at *
      generalize c.nuR.2.1 = y at *
      generalize c.nuR.2.2 = e0 at *
      generalize Value.int .u64 ((c.nuR.1 : Nat) : Int) = v at *
      have HG := Lib.hid hg
      have HF := Lib.hid hfail
      have hne : ¬ ((e0 : Int) = 0) := by omega
      clear hg hfail hlt
      go_enter Try.func32, Try.ntmps32
      go_wp2
      refine wp_region_held (S := fun W => Below w.heap.size w W) (by kernel_rfl) ?_
      refine h_take 0 (.func (.func 33) #[] #[]) rfl (by kernel_rfl) (by kernel_rfl) (by kernel_rfl) (fun _ _ _ h => h) (by kernel_rfl) hS (fun _ _ => by kernel_rfl) ?_
      refine h_take 1 (.pointer (some ⟨b, 0, none⟩)) rfl (by kernel_rfl) (by kernel_rfl) (by kernel_rfl) (fun _ _ _ h => h) (by kernel_rfl) hS (fun _ _ => by kernel_rfl) ?_
      refine h_take 2 (.pointer (some ⟨b, 0, none⟩)) rfl (by kernel_rfl) (by kernel_rfl) (by kernel_rfl) (fun _ _ _ h => h) (by kernel_rfl) hS (by intro w' hb; go_simp) ?_
      refine h_take 3 (.pointer (some ⟨b, 0, none⟩)) rfl (by kernel_rfl) (by kernel_rfl) (by kernel_rfl) (fun _ _ _ h => h) (by kernel_rfl) hS (by intro w' hb; go_simp) ?_
      refine h_take 4 (.slice A n cap) rfl (by kernel_rfl) (by kernel_rfl) (by kernel_rfl) (fun _ _ _ h => h) (by kernel_rfl) hS (by intro w' hb; have c0 := HC0.out w' hb; go_simp) ?_
      refine h_take 5 (.pointer (some ⟨b, 0, none⟩)) rfl (by kernel_rfl) (by kernel_rfl) (by kernel_rfl) (fun _ _ _ h => h) (by kernel_rfl) hS (fun _ _ => by kernel_rfl) ?_
      refine h_take 6 (.pointer (some ⟨b, 0, none⟩)) rfl (by kernel_rfl) (by kernel_rfl) (by kernel_rfl) (fun _ _ _ h => h) (by kernel_rfl) hS (by intro w' hb; go_simp) ?_
      refine h_take 7 (.pointer (some ⟨b, 1, none⟩)) rfl (by kernel_rfl) (by kernel_rfl) (by kernel_rfl) (fun _ _ _ h => h) (by kernel_rfl) hS (by intro w' hb; go_simp) ?_
      refine h_take 8 (.int .i64 (x : Int)) rfl (by kernel_rfl) (by kernel_rfl) (by kernel_rfl) (fun _ _ _ h => h) (by kernel_rfl) hS (by intro w' hb; have c1 := HC1.out w' hb; go_simp) ?_
      refine h_one 9 rfl (by kernel_rfl) (by kernel_rfl) (fun K hK => ?_)
      go_simp
      refine (HG.out _ hS).mono ?_
      rintro e w1 ⟨rfl, rfl⟩
      refine hK _ _ hS ?_
      clear hK K
      refine h_take 10 (.tuple #[v, .int .i64 (y : Int), .int .i64 (e0 : Int)]) rfl (by kernel_rfl) (by kernel_rfl) (by kernel_rfl) (fun _ _ _ h => h) (by kernel_rfl) hS (fun _ _ => by kernel_rfl) ?_
      refine h_take 11 (v) rfl (by kernel_rfl) (by kernel_rfl) (by kernel_rfl) (fun _ _ _ h => h) (by kernel_rfl) hS (by intro w' hb; go_simp) ?_
      refine h_take 12 (.int .i64 (y : Int)) rfl (by kernel_rfl) (by kernel_rfl) (by kernel_rfl) (fun _ _ _ h => h) (by kernel_rfl) hS (by intro w' hb; go_simp) ?_
      refine h_take 13 (.int .i64 (e0 : Int)) rfl (by kernel_rfl) (by kernel_rfl) (by kernel_rfl) (fun _ _ _ h => h) (by kernel_rfl) hS (by intro w' hb; go_simp) ?_
      refine h_take 14 (v) rfl (by kernel_rfl) (by kernel_rfl) (by kernel_rfl) (fun _ _ _ h => h) (by kernel_rfl) hS (fun _ _ => by kernel_rfl) ?_
      refine h_take 15 (.int .i64 (y : Int)) rfl (by kernel_rfl) (by kernel_rfl) (by kernel_rfl) (fun _ _ _ h => h) (by kernel_rfl) hS (fun _ _ => by kernel_rfl) ?_
      refine h_take 16 (.int .i64 (e0 : Int)) rfl (by kernel_rfl) (by kernel_rfl) (by kernel_rfl) (fun _ _ _ h => h) (by kernel_rfl) hS (fun _ _ => by kernel_rfl) ?_
      refine wpAnyH_done (by kernel_rfl) ?_ _
      go_simp
      go_wp2_with fail
      refine HF.out.mono ?_
      rintro e w2 ⟨rfl, hc2, ho2⟩
      go_wp2
      go_ret
      exact ⟨rfl, hc2, (Only.of_below hS).trans ho2⟩
  · have e1 : c.num = (0, c) := Cu.tk_e h0
    rw [e1]
    generalize c.e = x at f2 h0
    have H := Lib.hid h
    clear e1 h hok hrm hlt hl hr f0 f1 z1
    go_enter Try.func32, Try.ntmps32
    go_wp2
    go_ret
    exact ⟨rfl, H.out, Only.refl _ _⟩

set_option maxRecDepth 100000 in
theorem text1_any (A : Option Addr) (n cap B d : Nat) (c : Cu) (most : Int) (hm : most < 9223372036854775808) (hnc : n ≤ cap) (hn : n ≤ 1000000) (hok : c.at_ ≤ n) (w : World) (hd : w.cell? ⟨d, 0, none⟩ = some (.int .i64 most)) (hr : Reads w B 1 A n (c.bs.map bv)) :
    Calls Try.prog 35 #[.slice A n cap, .int .i64 (c.at_ : Int), .pointer (some ⟨d, 0, none⟩)] w fun e w' => e = .returned (.tuple #[.string (tx (c.txR most).1), .int .i64 ((c.txR most).2.1 : Int), .int .i64 ((c.txR most).2.2 : Int)]) ∧ w = w' := by
  have hg := bget_any A n cap c.at_ most B c.bs hnc (by omega) hm hok w hr
  rw [show bg most c.at_ c.bs = c.txR most from rfl, bres] at hg
  generalize (c.at_ : Int) = x at *
  generalize tx (c.txR most).1 = t at *
  generalize ((c.txR most).2.1 : Int) = y at *
  generalize ((c.txR most).2.2 : Int) = e0 at *
  have HG := Lib.hid hg
  clear hg hr hm
  go_enter Try.func35, Try.ntmps35
  go_wp2_with fail
  refine HG.out.mono ?_
  rintro e w1 ⟨rfl, rfl⟩
  go_wp2
  go_ret3
  exact ⟨rfl, rfl⟩

set_option maxRecDepth 100000 in
set_option maxHeartbeats 800000 in
theorem take_text (B b : Nat) (c : Cu) (d : Nat) (most : Int) (hm : most < 9223372036854775808) (w : World) (h : CurIn w B b c) (hdl : d < w.heap.size) (hd0 : w.cell? ⟨d, 0, none⟩ = some (.int .i64 most)) :
    Calls Try.prog 34 #[.pointer (some ⟨b, 0, none⟩), .func (.func 35) #[] #[.pointer (some ⟨d, 0, none⟩)]] w fun e w' => e = .returned (Value.string (tx ((c.text most).1))) ∧ CurIn w' B b (c.text most).2 ∧ Only b w w' := by
  have hok := h.ok
  have hrm := h.room
  have hlt := h.lt
  obtain ⟨A, n, cap, hnc, hl, hr, f0, f1, f2, z1, _⟩ := h.cells
  by_cases h0 : c.e = 0
  · have hg : ∀ W, Below w.heap.size w W → Calls Try.prog 35 #[.slice A n cap, .int .i64 (c.at_ : Int), .pointer (some ⟨d, 0, none⟩)] W fun e w' => e = .returned (.tuple #[.string (tx (c.txR most).1), .int .i64 ((c.txR most).2.1 : Int), .int .i64 ((c.txR most).2.2 : Int)]) ∧ W = w' :=
      fun W hW => text1_any A n cap B d c most hm hnc (by omega) (by rw [← hl]; exact hok) W ((hW.cell (p := ⟨d, 0, none⟩) hdl).trans hd0) (hr.below (hW.mono (by have := h.le; omega)))
    have HC0 : Hid (∀ w', Below w.heap.size w w' → w'.cell? ⟨b, 0, none⟩ = some (.slice A n cap)) := fun w' hb => (hb.cell (p := ⟨b, 0, none⟩) hlt).trans f0
    have HC1 : Hid (∀ w', Below w.heap.size w w' → w'.cell? ⟨b, 1, none⟩ = some (.int .i64 (c.at_ : Int))) := fun w' hb => (hb.cell (p := ⟨b, 1, none⟩) hlt).trans f1
    rw [h0] at f2
    have hS : Below w.heap.size w w.drew := (Below.refl _ w).drew
    have hd := h.below hS hlt
    have hin : (c.txR most).2.2 = 0 → (c.txR most).2.1 ≤ c.bs.length := fun he => (Cu.txR_in most he).2
    by_cases h1 : (c.txR most).2.2 = 0
    · have e1 : (c.text most).1 = (c.txR most).1 := by simp only [Cu.text, Cu.tk, h0, h1, if_true]
      have e2 : (c.text most).2 = { c with at_ := (c.txR most).2.1 } := by simp only [Cu.text, Cu.tk, h0, h1, if_true]
      rw [e1, e2]
      rw [h1] at hg
      have hset := hd.setAt (c.txR most).2.1 (hin h1)
      clear e1 e2 hd0 hm h h0 h1 hin hok hrm hl hr hnc hd f0 f1
      generalize c.at_ = x at *
      generalize (c.txR most).2.1 = y at *
      generalize Value.string (tx ((c.txR most).1)) = v at *
      have z1' : w.drew.frozen? ⟨b, 1, none⟩ = false := z1
      have c1' := HC1.out _ hS
      have HG := Lib.hid hg
      have HSET := Lib.hid hset
      clear hg hset z1 hlt
      go_enter Try.func34, Try.ntmps34
      go_wp2
      refine wp_region_held (S := fun W => Below w.heap.size w W) (by kernel_rfl) ?_
      refine h_take 0 (.func (.func 35) #[] #[.pointer (some ⟨d, 0, none⟩)]) rfl (by kernel_rfl) (by kernel_rfl) (by kernel_rfl) (fun _ _ _ h => h) (by kernel_rfl) hS (fun _ _ => by kernel_rfl) ?_
      refine h_take 1 (.pointer (some ⟨b, 0, none⟩)) rfl (by kernel_rfl) (by kernel_rfl) (by kernel_rfl) (fun _ _ _ h => h) (by kernel_rfl) hS (fun _ _ => by kernel_rfl) ?_
      refine h_take 2 (.pointer (some ⟨b, 0, none⟩)) rfl (by kernel_rfl) (by kernel_rfl) (by kernel_rfl) (fun _ _ _ h => h) (by kernel_rfl) hS (by intro w' hb; go_simp) ?_
      refine h_take 3 (.pointer (some ⟨b, 0, none⟩)) rfl (by kernel_rfl) (by kernel_rfl) (by kernel_rfl) (fun _ _ _ h => h) (by kernel_rfl) hS (by intro w' hb; go_simp) ?_
      refine h_take 4 (.slice A n cap) rfl (by kernel_rfl) (by kernel_rfl) (by kernel_rfl) (fun _ _ _ h => h) (by kernel_rfl) hS (by intro w' hb; have c0 := HC0.out w' hb; go_simp) ?_
      refine h_take 5 (.pointer (some ⟨b, 0, none⟩)) rfl (by kernel_rfl) (by kernel_rfl) (by kernel_rfl) (fun _ _ _ h => h) (by kernel_rfl) hS (fun _ _ => by kernel_rfl) ?_
      refine h_take 6 (.pointer (some ⟨b, 0, none⟩)) rfl (by kernel_rfl) (by kernel_rfl) (by kernel_rfl) (fun _ _ _ h => h) (by kernel_rfl) hS (by intro w' hb; go_simp) ?_
      refine h_take 7 (.pointer (some ⟨b, 1, none⟩)) rfl (by kernel_rfl) (by kernel_rfl) (by kernel_rfl) (fun _ _ _ h => h) (by kernel_rfl) hS (by intro w' hb; go_simp) ?_
      refine h_take 8 (.int .i64 (x : Int)) rfl (by kernel_rfl) (by kernel_rfl) (by kernel_rfl) (fun _ _ _ h => h) (by kernel_rfl) hS (by intro w' hb; have c1 := HC1.out w' hb; go_simp) ?_
      refine h_one 9 rfl (by kernel_rfl) (by kernel_rfl) (fun K hK => ?_)
      go_simp
      refine (HG.out _ hS).mono ?_
      rintro e w1 ⟨rfl, rfl⟩
      refine hK _ _ hS ?_
      clear hK K
      refine h_take 10 (.tuple #[v, .int .i64 (y : Int), .int .i64 0]) rfl (by kernel_rfl) (by kernel_rfl) (by kernel_rfl) (fun _ _ _ h => h) (by kernel_rfl) hS (fun _ _ => by kernel_rfl) ?_
      refine h_take 11 (v) rfl (by kernel_rfl) (by kernel_rfl) (by kernel_rfl) (fun _ _ _ h => h) (by kernel_rfl) hS (by intro w' hb; go_simp) ?_
      refine h_take 12 (.int .i64 (y : Int)) rfl (by kernel_rfl) (by kernel_rfl) (by kernel_rfl) (fun _ _ _ h => h) (by kernel_rfl) hS (by intro w' hb; go_simp) ?_
      refine h_take 13 (.int .i64 0) rfl (by kernel_rfl) (by kernel_rfl) (by kernel_rfl) (fun _ _ _ h => h) (by kernel_rfl) hS (by intro w' hb; go_simp) ?_
      refine h_take 14 (v) rfl (by kernel_rfl) (by kernel_rfl) (by kernel_rfl) (fun _ _ _ h => h) (by kernel_rfl) hS (fun _ _ => by kernel_rfl) ?_
      refine h_take 15 (.int .i64 (y : Int)) rfl (by kernel_rfl) (by kernel_rfl) (by kernel_rfl) (fun _ _ _ h => h) (by kernel_rfl) hS (fun _ _ => by kernel_rfl) ?_
      refine h_take 16 (.int .i64 0) rfl (by kernel_rfl) (by kernel_rfl) (by kernel_rfl) (fun _ _ _ h => h) (by kernel_rfl) hS (fun _ _ => by kernel_rfl) ?_
      refine wpAnyH_done (by kernel_rfl) ?_ _
      go_simp
      go_wp2
      go_ret
      exact ⟨rfl, HSET.out, (Only.of_below hS).trans (Only.setCell _)⟩
    · have e1 : (c.text most).1 = [] := by simp only [Cu.text, Cu.tk, h0, if_true, if_neg h1]
      have e2 : (c.text most).2 = c.fail ((c.txR most).2.2 : Int) := by simp only [Cu.text, Cu.tk, Cu.fail, h0, if_true, if_neg h1]
      rw [e1, e2]
      have hfail := fail_any B b c ((c.txR most).2.2 : Int) w.drew hd
      clear e1 e2 hd0 hm h h0 hin hok hrm hl hr hnc hd f0 f1
      generalize c.fail ((c.txR most).2.2 : Int) = c9 at *
      generalize c.at_ = x at *
      generalize (c.txR most).2.1 = y at *
      generalize (c.txR most).2.2 = e0 at *
      generalize Value.string (tx ((c.txR most).1)) = v at *
      have HG := Lib.hid hg
      have HF := Lib.hid hfail
      have hne : ¬ ((e0 : Int) = 0) := by omega
      clear hg hfail hlt
      go_enter Try.func34, Try.ntmps34
      go_wp2
      refine wp_region_held (S := fun W => Below w.heap.size w W) (by kernel_rfl) ?_
      refine h_take 0 (.func (.func 35) #[] #[.pointer (some ⟨d, 0, none⟩)]) rfl (by kernel_rfl) (by kernel_rfl) (by kernel_rfl) (fun _ _ _ h => h) (by kernel_rfl) hS (fun _ _ => by kernel_rfl) ?_
      refine h_take 1 (.pointer (some ⟨b, 0, none⟩)) rfl (by kernel_rfl) (by kernel_rfl) (by kernel_rfl) (fun _ _ _ h => h) (by kernel_rfl) hS (fun _ _ => by kernel_rfl) ?_
      refine h_take 2 (.pointer (some ⟨b, 0, none⟩)) rfl (by kernel_rfl) (by kernel_rfl) (by kernel_rfl) (fun _ _ _ h => h) (by kernel_rfl) hS (by intro w' hb; go_simp) ?_
      refine h_take 3 (.pointer (some ⟨b, 0, none⟩)) rfl (by kernel_rfl) (by kernel_rfl) (by kernel_rfl) (fun _ _ _ h => h) (by kernel_rfl) hS (by intro w' hb; go_simp) ?_
      refine h_take 4 (.slice A n cap) rfl (by kernel_rfl) (by kernel_rfl) (by kernel_rfl) (fun _ _ _ h => h) (by kernel_rfl) hS (by intro w' hb; have c0 := HC0.out w' hb; go_simp) ?_
      refine h_take 5 (.pointer (some ⟨b, 0, none⟩)) rfl (by kernel_rfl) (by kernel_rfl) (by kernel_rfl) (fun _ _ _ h => h) (by kernel_rfl) hS (fun _ _ => by kernel_rfl) ?_
      refine h_take 6 (.pointer (some ⟨b, 0, none⟩)) rfl (by kernel_rfl) (by kernel_rfl) (by kernel_rfl) (fun _ _ _ h => h) (by kernel_rfl) hS (by intro w' hb; go_simp) ?_
      refine h_take 7 (.pointer (some ⟨b, 1, none⟩)) rfl (by kernel_rfl) (by kernel_rfl) (by kernel_rfl) (fun _ _ _ h => h) (by kernel_rfl) hS (by intro w' hb; go_simp) ?_
      refine h_take 8 (.int .i64 (x : Int)) rfl (by kernel_rfl) (by kernel_rfl) (by kernel_rfl) (fun _ _ _ h => h) (by kernel_rfl) hS (by intro w' hb; have c1 := HC1.out w' hb; go_simp) ?_
      refine h_one 9 rfl (by kernel_rfl) (by kernel_rfl) (fun K hK => ?_)
      go_simp
      refine (HG.out _ hS).mono ?_
      rintro e w1 ⟨rfl, rfl⟩
      refine hK _ _ hS ?_
      clear hK K
      refine h_take 10 (.tuple #[v, .int .i64 (y : Int), .int .i64 (e0 : Int)]) rfl (by kernel_rfl) (by kernel_rfl) (by kernel_rfl) (fun _ _ _ h => h) (by kernel_rfl) hS (fun _ _ => by kernel_rfl) ?_
      refine h_take 11 (v) rfl (by kernel_rfl) (by kernel_rfl) (by kernel_rfl) (fun _ _ _ h => h) (by kernel_rfl) hS (by intro w' hb; go_simp) ?_
      refine h_take 12 (.int .i64 (y : Int)) rfl (by kernel_rfl) (by kernel_rfl) (by kernel_rfl) (fun _ _ _ h => h) (by kernel_rfl) hS (by intro w' hb; go_simp) ?_
      refine h_take 13 (.int .i64 (e0 : Int)) rfl (by kernel_rfl) (by kernel_rfl) (by kernel_rfl) (fun _ _ _ h => h) (by kernel_rfl) hS (by intro w' hb; go_simp) ?_
      refine h_take 14 (v) rfl (by kernel_rfl) (by kernel_rfl) (by kernel_rfl) (fun _ _ _ h => h) (by kernel_rfl) hS (fun _ _ => by kernel_rfl) ?_
      refine h_take 15 (.int .i64 (y : Int)) rfl (by kernel_rfl) (by kernel_rfl) (by kernel_rfl) (fun _ _ _ h => h) (by kernel_rfl) hS (fun _ _ => by kernel_rfl) ?_
      refine h_take 16 (.int .i64 (e0 : Int)) rfl (by kernel_rfl) (by kernel_rfl) (by kernel_rfl) (fun _ _ _ h => h) (by kernel_rfl) hS (fun _ _ => by kernel_rfl) ?_
      refine wpAnyH_done (by kernel_rfl) ?_ _
      go_simp
      go_wp2_with fail
      refine HF.out.mono ?_
      rintro e w2 ⟨rfl, hc2, ho2⟩
      go_wp2
      go_ret
      exact ⟨rfl, hc2, (Only.of_below hS).trans ho2⟩
  · have e1 : (c.text most) = ([], c) := Cu.tk_e h0
    rw [e1]
    generalize c.e = x at f2 h0
    have H := Lib.hid h
    clear e1 hd0 hm h hok hrm hlt hl hr f0 f1 z1
    go_enter Try.func34, Try.ntmps34
    go_wp2
    go_ret
    exact ⟨rfl, H.out, Only.refl _ _⟩

end Go.Proofs.Ytkpgnpiofhgcpaa
