/- The walks of Of, and of the document's digest. -/
import Derived.Test.YtbaokcigfgfoaaaDc0
namespace Go.Proofs.Ytbaokcigfgfoaaa
open Go.RowKit

theorem below7 (w : World) (a b c d e f g : Obj) : Below w.heap.size w (((((((w.alloc a).alloc b).alloc c).alloc d).alloc e).alloc f).alloc g) :=
  (((((((Below.refl _ w).alloc (by simp) a).alloc (by simp <;> omega) b).alloc (by simp <;> omega) c).alloc (by simp <;> omega) d).alloc (by simp <;> omega) e).alloc (by simp <;> omega) f).alloc (by simp <;> omega) g

set_option maxRecDepth 100000 in
set_option maxHeartbeats 400000 in
theorem of_any (x : Q64) (w : World) : Calls Try.prog 22 #[qv x] w fun e w' => e = .returned (qv (dg x)) ∧ Below w.heap.size w w' := by
  have hc : ∀ X, _ → _ := through_six w x (.plus k1) (.mix 30) (.times k2) (.mix 27) (.times k3) (.mix 31) trivial (.inr (.inl rfl)) trivial (.inl rfl) trivial (.inr (.inr rfl)) 22 3 22 3 22 3 69
  rw [runs_of] at hc
  obtain ⟨r, hr⟩ : ∃ r, qv (dg x) = r := ⟨_, rfl⟩
  rw [hr] at hc ⊢
  generalize qv x = v0 at hc ⊢
  clear hr
  have HC := Lib.hid hc
  clear hc
  go_enter Try.func22, Try.ntmps22
  go_wp2_with fail
  refine (plus_any _ _).mono ?_; rintro e w1 ⟨rfl, rfl⟩
  go_wp2_with fail
  refine (mixed_any _ _).mono ?_; rintro e w1 ⟨rfl, rfl⟩
  go_wp2_with fail
  refine (times_any _ _).mono ?_; rintro e w1 ⟨rfl, rfl⟩
  go_wp2_with fail
  refine (mixed_any _ _).mono ?_; rintro e w1 ⟨rfl, rfl⟩
  go_wp2_with fail
  refine (times_any _ _).mono ?_; rintro e w1 ⟨rfl, rfl⟩
  go_wp2_with fail
  refine (mixed_any _ _).mono ?_; rintro e w1 ⟨rfl, rfl⟩
  go_wp2_with fail
  refine (HC.out _ rfl).mono ?_; rintro e w1 ⟨rfl, rfl⟩
  go_wp2
  go_ret
  exact ⟨rfl, below7 w _ _ _ _ _ _ _⟩

theorem wrap_q (a : Q64) : IntKind.u64.wrap (a.toNat : Int) = (a.toNat : Int) := by
  have := a.isLt
  rw [IntKind.wrap_u64]
  omega

theorem ref_nums (n : Q64) : ∃ a b c d e f g h i : Nat, IntKind.u64.wrap ((n.toNat : Int) + 11400714819323198485) = (a : Int) ∧ (a : Int) / 1073741824 = (b : Int) ∧ bits .xor .u64 (a : Int) (b : Int) = (c : Int) ∧ IntKind.u64.wrap ((c : Int) * 13787848793156543929) = (d : Int) ∧
    (d : Int) / 134217728 = (e : Int) ∧ bits .xor .u64 (d : Int) (e : Int) = (f : Int) ∧ IntKind.u64.wrap ((f : Int) * 10723151780598845931) = (g : Int) ∧ (g : Int) / 2147483648 = (h : Int) ∧ bits .xor .u64 (g : Int) (h : Int) = (i : Int) ∧ qv (dg n) = .int .u64 (i : Int) ∧
    IntKind.u64.wrap (b : Int) = (b : Int) ∧ IntKind.u64.wrap (e : Int) = (e : Int) ∧ IntKind.u64.wrap (h : Int) = (h : Int) :=
  ⟨(n + k1).toNat, ((n + k1) >>> 30).toNat, (mix 30 (n + k1)).toNat, (mix 30 (n + k1) * k2).toNat, ((mix 30 (n + k1) * k2) >>> 27).toNat, (mix 27 (mix 30 (n + k1) * k2)).toNat, (mix 27 (mix 30 (n + k1) * k2) * k3).toNat, ((mix 27 (mix 30 (n + k1) * k2) * k3) >>> 31).toNat, (dg n).toNat,
    add_nat n k1, shr_nat _ 30, xor_nat _ _, mul_nat _ k2, shr_nat _ 27, xor_nat _ _, mul_nat _ k3, shr_nat _ 31, xor_nat _ _, rfl, wrap_q _, wrap_q _, wrap_q _⟩

set_option maxRecDepth 100000 in
set_option maxHeartbeats 400000 in
theorem refof_any (x : Q64) (w : World) : Calls Try.prog 23 #[qv x] w fun e w' => e = .returned (qv (dg x)) ∧ w = w' := by
  obtain ⟨a, b, c, d, e, f, g, h, i, h1, h2, h3, h4, h5, h6, h7, h8, h9, h10, h11, h12, h13⟩ := ref_nums x
  rw [h10]
  unfold qv
  generalize x.toNat = p at *
  clear h10
  go_enter Try.func23, Try.ntmps23
  go_wp2
  go_ret
  exact ⟨rfl, rfl⟩

end Go.Proofs.Ytbaokcigfgfoaaa
