/- The walks of Fold and of the document's fold. -/
import Derived.Test.YtacjiojfjkonkaaDd1
namespace Go.Proofs.Ytacjiojfjkonkaa
open Go.RowKit

/-- At the head of a round of Fold. -/
def FRel (h : Q64) (xs : List Q64) (w : World) (v idx : Value) (wr : World) : Prop := ∃ i, i ≤ xs.length ∧ idx = .int .i64 (i : Int) ∧ v = qv (foq h (xs.take i)) ∧ Below w.heap.size w wr

theorem qs_at {xs : List Q64} {i : Nat} {u : Value} (h : (xs.map qv)[i]? = some u) : ∃ x, u = qv x ∧ xs[i]? = some x := by
  rw [List.getElem?_map] at h
  obtain ⟨x, hx, rfl⟩ := Option.map_eq_some_iff.1 h
  exact ⟨x, rfl, hx⟩

set_option maxRecDepth 100000 in
set_option maxHeartbeats 400000 in
theorem fold_any (L : Option Addr) (n c : Nat) (x : Q64) (xs : List Q64) (hn : n ≤ 1000) (w : World) (hr : Reads w w.heap.size 1 L n (xs.map qv)) :
    Calls Try.prog 23 #[qv x, .slice L n c] w fun e w' => e = .returned (qv (foq (dg x) xs)) ∧ Below w.heap.size w w' := by
  have hl : xs.length = n := by have := hr.1; simpa using this
  have HL := Lib.hid hl
  have h1 := fun W => of_any x W
  have H0 : ∀ w1, Below w.heap.size w w1 → FRel (dg x) xs w (qv (dg x)) (.int .i64 0) w1 := fun w1 hb => ⟨0, by omega, rfl, rfl, hb⟩
  generalize qv (dg x) = v1 at h1 H0
  generalize qv x = v0 at h1 ⊢
  have H1 := Lib.hid h1
  have HR := Lib.hid hr
  have HH := Lib.hid H0
  clear hl h1 hr H0
  go_enter Try.func23, Try.ntmps23
  go_wp2_with fail
  refine (H1.out _).mono ?_; rintro e w1 ⟨rfl, b1⟩
  go_wp2
  go_loopw [5, 12] (fun v idx wr => FRel (dg x) xs w v idx wr) (fun v idx wr => n - (intOf idx).toNat)
  case atStart => exact HH.out w1 b1
  case round =>
    obtain ⟨i, hi, rfl, rfl, hb⟩ := hrel
    rw [HL.out] at hi
    by_cases hlt : i < n
    · obtain ⟨ad, u, rfl, hadb, hx, hcell⟩ := (HR.out.below hb).at_ hlt
      obtain ⟨y, rfl, hy⟩ := qs_at hx
      obtain ⟨h0, hh0⟩ : ∃ h0, h0 = foq (dg x) (xs.take i) := ⟨_, rfl⟩
      have hone := foq_one (dg x) xs i y hy
      rw [← hh0] at hone ⊢
      have hc := fun W => of_any (h0 ^^^ y) W
      rw [← hone] at hc
      have hxo := xor_nat h0 y
      obtain ⟨r, hr⟩ : ∃ r, qv (foq (dg x) (xs.take (i + 1))) = r := ⟨_, rfl⟩
      rw [hr] at hc
      have HQ := Lib.hid hr
      unfold qv at hc hcell ⊢
      generalize (h0.toNat : Int) = a at *
      generalize (y.toNat : Int) = b at *
      generalize ((h0 ^^^ y).toNat : Int) = z at *
      have HC := Lib.hid hc
      clear hc hx hy hh0 hone hr
      go_wp2_with fail
      refine (HC.out _).mono ?_
      rintro e w2 ⟨rfl, b2⟩
      have hb2 := hb.trans (b2.mono hb.size)
      clear b2
      go_wp2
      exact ⟨⟨i + 1, by rw [HL.out]; omega, by go_num, HQ.out.symm, hb2⟩, by simp [intOf]; omega⟩
    · obtain rfl : i = n := by omega
      have he : xs.take i = xs := List.take_of_length_le (by rw [HL.out]; omega)
      rw [he]
      obtain ⟨r, hr⟩ : ∃ r, qv (foq (dg x) xs) = r := ⟨_, rfl⟩
      rw [hr]
      have HQ := Lib.hid hr
      clear he hr
      go_wp2
      go_ret
      exact ⟨by rw [HQ.out]; rfl, hb⟩

def GRel (h : Q64) (xs : List Q64) (w : World) (v idx : Value) (wr : World) : Prop := ∃ i, i ≤ xs.length ∧ idx = .int .i64 (i : Int) ∧ v = qv (foq h (xs.take i)) ∧ w = wr

set_option maxRecDepth 100000 in
set_option maxHeartbeats 400000 in
theorem reffold_any (L : Option Addr) (n c : Nat) (x : Q64) (xs : List Q64) (hn : n ≤ 1000) (B : Nat) (w : World) (hr : Reads w B 1 L n (xs.map qv)) :
    Calls Try.prog 13 #[qv x, .slice L n c] w fun e w' => e = .returned (qv (foq (dg x) xs)) ∧ w = w' := by
  have hl : xs.length = n := by have := hr.1; simpa using this
  have HL := Lib.hid hl
  have h1 := fun W => refof_any x W
  have H0 : GRel (dg x) xs w (qv (dg x)) (.int .i64 0) w := ⟨0, by omega, rfl, rfl, rfl⟩
  generalize qv (dg x) = v1 at h1 H0
  generalize qv x = v0 at h1 ⊢
  have H1 := Lib.hid h1
  have HR := Lib.hid hr
  have HH := Lib.hid H0
  clear hl h1 hr H0
  go_enter Try.func13, Try.ntmps13
  go_wp2_with fail
  refine (H1.out _).mono ?_; rintro e w1 ⟨rfl, rfl⟩
  go_wp2
  go_loopw [5, 6] (fun v idx wr => GRel (dg x) xs w v idx wr) (fun v idx wr => n - (intOf idx).toNat)
  case atStart => exact HH.out
  case round =>
    obtain ⟨i, hi, rfl, rfl, rfl⟩ := hrel
    rw [HL.out] at hi
    by_cases hlt : i < n
    · obtain ⟨ad, u, rfl, hadb, hx, hcell⟩ := HR.out.at_ hlt
      obtain ⟨y, rfl, hy⟩ := qs_at hx
      obtain ⟨h0, hh0⟩ : ∃ h0, h0 = foq (dg x) (xs.take i) := ⟨_, rfl⟩
      have hone := foq_one (dg x) xs i y hy
      rw [← hh0] at hone ⊢
      have hc := fun W => refof_any (h0 ^^^ y) W
      rw [← hone] at hc
      have hxo := xor_nat h0 y
      obtain ⟨r, hr⟩ : ∃ r, qv (foq (dg x) (xs.take (i + 1))) = r := ⟨_, rfl⟩
      rw [hr] at hc
      have HQ := Lib.hid hr
      unfold qv at hc hcell ⊢
      generalize (h0.toNat : Int) = a at *
      generalize (y.toNat : Int) = b at *
      generalize ((h0 ^^^ y).toNat : Int) = z at *
      have HC := Lib.hid hc
      clear hc hx hy hh0 hone hr
      go_wp2_with fail
      refine (HC.out _).mono ?_
      rintro e w2 ⟨rfl, rfl⟩
      go_wp2
      exact ⟨⟨i + 1, by rw [HL.out]; omega, by go_num, HQ.out.symm, rfl⟩, by simp [intOf]; omega⟩
    · obtain rfl : i = n := by omega
      have he : xs.take i = xs := List.take_of_length_le (by rw [HL.out]; omega)
      rw [he]
      obtain ⟨r, hr⟩ : ∃ r, qv (foq (dg x) xs) = r := ⟨_, rfl⟩
      rw [hr]
      have HQ := Lib.hid hr
      clear he hr
      go_wp2
      go_ret
      exact ⟨by rw [HQ.out]; rfl, rfl⟩

end Go.Proofs.Ytacjiojfjkonkaa
