/- fold.Right. -/
import Derived.WalkLawsBesides
import Derived.BigQuiet
import Derived.Deep.QuietTactic
import Derived.RegionTactic
import Derived.Test.YtbgjlkbfelgglaaGg
import Derived.Test.YtbgjlkbfelgglaaGj
namespace Go.Proofs.Ytbgjlkbfelgglaa
open Go.RowKit

/-- Records that are a state. -/
def RightP (S : List Rw) : Prop := Up Rw.t S ∧ ∀ x ∈ S, x.k = 1

theorem up_snoc {S : List Rw} {i : Nat} {x : Rw} (hx : S[i]? = some x) : Up Rw.t (S.take (i + 1)) ↔ Up Rw.t (S.take i) ∧ ∀ y ∈ S.take i, y.t < x.t := by
  unfold Up
  rw [List.take_add_one, hx, List.pairwise_append]
  simp
theorem up_last {S : List Rw} {i : Nat} {x y : Rw} (hx : S[i + 1]? = some x) (hy : S[i]? = some y) (h : Up Rw.t (S.take (i + 1))) : Up Rw.t (S.take (i + 1 + 1)) ↔ y.t < x.t := by
  rw [up_snoc hx]
  constructor
  · intro h2
    exact h2.2 y (by rw [List.take_add_one, hy]; simp)
  · intro h2
    refine ⟨h, fun z hz => ?_⟩
    rw [List.take_add_one, hy, List.mem_append] at hz
    rcases hz with hz | hz
    · exact lx_trans (((up_snoc hy).1 h).2 z hz) h2
    · simp at hz
      rw [hz]
      exact h2
theorem up_take {S : List Rw} (h : Up Rw.t S) (i : Nat) : Up Rw.t (S.take i) := List.Pairwise.sublist (List.take_sublist i S) h
theorem right_take {S : List Rw} (h : RightP S) (i : Nat) : RightP (S.take i) := ⟨up_take h.1 i, fun x hx => h.2 x (List.mem_of_mem_take hx)⟩
theorem right_one {S : List Rw} {i : Nat} {x : Rw} (hx : S[i]? = some x) (h : RightP (S.take i)) (hk : x.k = 1) (hu : Up Rw.t (S.take (i + 1))) : RightP (S.take (i + 1)) := by
  refine ⟨hu, fun y hy => ?_⟩
  rw [List.take_add_one, hx, List.mem_append] at hy
  rcases hy with hy | hy
  · exact h.2 y hy
  · simp at hy
    rw [hy]
    exact hk
theorem lx_leq (a b : List UInt8) : (Op.bytesLess (tx a).toList (tx b).toList || (tx a).toList == (tx b).toList) = !decide (b < a) := by
  rw [bytesLess_eq, tx_toList, tx_toList]
  rcases lx_tri a b with h | h | h
  · simp [h, lx_asymm h]
  · subst h
    simp [lx_irr]
  · simp [h, lx_asymm h]
    exact fun e => lx_ne h e.symm

/-- What stands at a round of Right. -/
def RtRel (n : Nat) (xs : List Rw) (w : World) (idx : Value) (wr : World) : Prop := ∃ i : Nat, i ≤ n ∧ idx = .int .i64 (i : Int) ∧ RightP (xs.take i) ∧ Below w.heap.size w wr

set_option maxRecDepth 100000 in
set_option maxHeartbeats 1000000 in
theorem right_any (A : Option Addr) (n c : Nat) (xs : List Rw) (hn : n ≤ 1000000) (w : World) (h : Recs w w.heap.size A n xs) :
    Calls Try.prog 14 #[.slice A n c] w fun e w' => Tells (RightP xs) e ∧ Below w.heap.size w w' := by
  have HL : Hid (xs.length = n) := h.len
  have H1 := Lib.hid h
  clear h
  go_enter Try.func14, Try.ntmps14
  go_wp2
  go_loopw [7] (fun idx wr => RtRel n xs w idx wr) (fun idx _ => n - (intOf idx).toNat)
  case atStart => exact ⟨0, by omega, rfl, ⟨by simp [Up], by simp⟩, Below.refl _ _⟩
  case round =>
    obtain ⟨i, hi, rfl, hrt, hb⟩ := hrel
    have HRT := Lib.hid hrt
    have HBR := Lib.hid hb
    clear hrt
    by_cases hlt : i < n
    · obtain ⟨x, hx⟩ : ∃ x, xs[i]? = some x := ⟨_, List.getElem?_eq_getElem (by rw [HL.out]; exact hlt)⟩
      have hm := List.mem_of_getElem? hx
      have HX := Lib.hid hx
      have hrec := (H1.out.below hb).1
      obtain ⟨ad, rfl, _, k0, k1, k2, k3, k4, k5, k6⟩ := recs_cells hrec i x hx
      have HB2 := Lib.hid (hb.alloc hb.size (.cells #[.int .i64 x.r.kind, .string (tx x.r.target), .int .u64 x.r.rule, .slice x.A x.n x.c, .int .u64 x.r.out, .int .u64 x.r.time, .string (tx x.r.tag)] 26))
      have hbx := one_new wr (.cells #[.int .i64 x.r.kind, .string (tx x.r.target), .int .u64 x.r.rule, .slice x.A x.n x.c, .int .u64 x.r.out, .int .u64 x.r.time, .string (tx x.r.tag)] 26)
      have q0 := at_cell (i := 0) hbx rfl
      have q1 := at_cell (i := 1) hbx rfl
      have hi0 : (0 : Int) ≤ (i : Int) := by omega
      have hi1 : (i : Int) < (n : Int) := by omega
      by_cases hk : x.r.kind = 1
      · rcases Nat.eq_zero_or_pos i with h0 | h0
        · have HOK : Hid (RightP (xs.take (i + 1))) := right_one hx HRT.out hk ((up_snoc hx).2 ⟨by subst h0; simp [Up], by subst h0; simp⟩)
          have d1 : decide ((i : Int) > 0) = false := decide_eq_false (by omega)
          have d2 : decide (0 < i) = false := decide_eq_false (by omega)
          obtain ⟨⟨k, t, u, o, m, g⟩, A4, n4, c4, l4⟩ := x
          simp only at hk
          subst hk
          simp only at k0 k1 k2 k3 k4 k5 k6 q0 q1 HB2
          clear hx hm hb hrec hbx h0
          go_wp2
          go_quiet (fail)
          go_wp2
          exact ⟨⟨i + 1, by omega, by go_num, HOK.out, below_drewN2 HB2.out _⟩, by simp [intOf]; omega⟩
        · obtain ⟨j, rfl⟩ : ∃ j, i = j + 1 := ⟨i - 1, by omega⟩
          obtain ⟨y, hy⟩ : ∃ y, xs[j]? = some y := ⟨_, List.getElem?_eq_getElem (by rw [HL.out]; omega)⟩
          obtain ⟨ad2, e2, hadb, _, j1, _⟩ := recs_cells hrec j y hy
          obtain rfl : ad = ad2 := by injection e2
          have hq : (wr.alloc (.cells #[.int .i64 x.r.kind, .string (tx x.r.target), .int .u64 x.r.rule, .slice x.A x.n x.c, .int .u64 x.r.out, .int .u64 x.r.time, .string (tx x.r.tag)] 26)).cell? ⟨(ad.add (j * 7)).block, (ad.add (j * 7)).off + 1, none⟩ = some (.string (tx y.t)) :=
            (World.cell?_alloc_lt wr _ _ (by show (ad.add (j * 7)).block < _; rw [block_of_add]; have := hb.size; omega)).trans j1
          have hw : IntKind.i64.wrap (((j + 1 : Nat) : Int) - 1) = (j : Int) := by rw [wrap_small (by omega) (by omega)]; omega
          have hw2 : IntKind.i64.wrap ((j : Int) + 1 - 1) = (j : Int) := by rw [wrap_small (by omega) (by omega)]; omega
          have hj1 : (j : Int) < (n : Int) := by omega
          have hlq := lx_leq x.t y.t
          have HUL := Lib.hid (up_last hx hy HRT.out.1)
          by_cases hlt2 : y.t < x.t
          · have HOK : Hid (RightP (xs.take (j + 1 + 1))) := right_one hx HRT.out hk (HUL.out.2 hlt2)
            rw [decide_eq_true hlt2] at hlq
            obtain ⟨⟨k, t, u, o, m, g⟩, A4, n4, c4, l4⟩ := x
            unfold Rw.t at hlq hq
            simp only at hk
            subst hk
            simp only [Bool.not_true] at k0 k1 k2 k3 k4 k5 k6 q0 q1 HB2 hlq hq
            generalize y.r.target = v at *
            clear hx hm hb hrec hbx hy j1 hlt2 HUL
            go_wp2
            go_quiet (fail)
            go_wp2
            exact ⟨⟨j + 1 + 1, by omega, by go_num, HOK.out, below_drewN2 HB2.out _⟩, by simp [intOf]; omega⟩
          · have HNO : Hid (¬ RightP xs) := fun h => hlt2 (HUL.out.1 (up_take h.1 _))
            rw [decide_eq_false hlt2] at hlq
            obtain ⟨⟨k, t, u, o, m, g⟩, A4, n4, c4, l4⟩ := x
            unfold Rw.t at hlq hq
            simp only at hk
            subst hk
            simp only [Bool.not_false] at k0 k1 k2 k3 k4 k5 k6 q0 q1 HB2 hlq hq
            generalize y.r.target = v at *
            clear hx hm hb hrec hbx hy j1 hlt2 HUL
            go_wp2
            go_quiet (fail)
            go_wp2
            go_ret
            exact ⟨tells_false HNO.out, below_drewN2 HB2.out _⟩
      · have HNO : Hid (¬ RightP xs) := fun h => hk (h.2 x hm)
        have d0 : (x.r.kind != 1) = true := by rw [bne_iff_ne]; exact hk
        obtain ⟨⟨k, t, u, o, m, g⟩, A4, n4, c4, l4⟩ := x
        simp only at k0 k1 k2 k3 k4 k5 k6 q0 q1 HB2 d0
        clear hx hm hb hrec hbx hk
        go_wp2
        go_quiet (fail)
        go_wp2
        go_ret
        exact ⟨tells_false HNO.out, below_drewN2 HB2.out _⟩
    · obtain rfl : i = n := by omega
      rw [List.take_of_length_le (by rw [HL.out]; omega)] at HRT
      clear hb
      go_wp2
      go_ret
      exact ⟨tells_true HRT.out, HBR.out⟩

end Go.Proofs.Ytbgjlkbfelgglaa
