/- The document's Right. -/
import Derived.Test.YtbgjlkbfelgglaaGh
namespace Go.Proofs.Ytbgjlkbfelgglaa
open Go.RowKit

set_option maxRecDepth 100000 in
set_option maxHeartbeats 1000000 in
theorem rright_any (A : Option Addr) (n c : Nat) (xs : List Rw) (hn : n ≤ 1000000) (hf : ∀ x ∈ xs, x.t.length ≤ maxLen) (w : World) (h : Recs w w.heap.size A n xs) :
    Calls Try.prog 15 #[.slice A n c] w fun e w' => Tells (RightP xs) e ∧ Below w.heap.size w w' := by
  have HL : Hid (xs.length = n) := h.len
  have H1 := Lib.hid h
  have HF := Lib.hid hf
  clear h hf
  go_enter Try.func15, Try.ntmps15
  go_wp2
  go_loopw [3] (fun idx wr => RtRel n xs w idx wr) (fun idx _ => n - (intOf idx).toNat)
  case atStart => exact ⟨0, by omega, rfl, ⟨by simp [Up], by simp⟩, Below.refl _ _⟩
  case round =>
    obtain ⟨i, hi, rfl, hrt, hb⟩ := hrel
    have HRT := Lib.hid hrt
    have HBR := Lib.hid hb
    clear hrt
    by_cases hlt : i < n
    · obtain ⟨x, hx⟩ : ∃ x, xs[i]? = some x := ⟨_, List.getElem?_eq_getElem (by rw [HL.out]; exact hlt)⟩
      have hm := List.mem_of_getElem? hx
      have hrec := (H1.out.below hb).1
      obtain ⟨ad, rfl, _, k0, k1, k2, k3, k4, k5, k6⟩ := recs_cells hrec i x hx
      have hi0 : (0 : Int) ≤ (i : Int) := by omega
      have hi1 : (i : Int) < (n : Int) := by omega
      have hfx := HF.out x hm
      by_cases hk : x.r.kind = 1
      · by_cases h0 : i = 0
        · have HOK : Hid (RightP (xs.take (i + 1))) := right_one hx HRT.out hk ((up_snoc hx).2 ⟨by subst h0; simp [Up], by subst h0; simp⟩)
          have d1 : decide ((i : Int) > 0) = false := decide_eq_false (by omega)
          have d2 : decide (0 < i) = false := decide_eq_false (by omega)
          obtain ⟨⟨k, t, u, o, m, g⟩, A4, n4, c4, l4⟩ := x
          simp only at hk
          subst hk
          simp only at k0 k1 k2 k3 k4 k5 k6
          clear hx hm hb hrec h0 hfx
          go_wp2
          go_quiet (fail)
          go_wp2
          exact ⟨⟨i + 1, by omega, by go_num, HOK.out, below_drewN2 HBR.out _⟩, by simp [intOf]; omega⟩
        · obtain ⟨j, rfl⟩ : ∃ j, i = j + 1 := ⟨i - 1, by omega⟩
          obtain ⟨y, hy⟩ : ∃ y, xs[j]? = some y := ⟨_, List.getElem?_eq_getElem (by rw [HL.out]; omega)⟩
          obtain ⟨ad2, e2, hadb, _, j1, _⟩ := recs_cells hrec j y hy
          obtain rfl : ad = ad2 := by injection e2
          have hw : IntKind.i64.wrap (((j + 1 : Nat) : Int) - 1) = (j : Int) := by rw [wrap_small (by omega) (by omega)]; omega
          have hw2 : IntKind.i64.wrap ((j : Int) + 1 - 1) = (j : Int) := by rw [wrap_small (by omega) (by omega)]; omega
          have hj1 : (j : Int) < (n : Int) := by omega
          have HLS := Lib.hid (fun W => less_any y.t x.t (HF.out y (List.mem_of_getElem? hy)) hfx W)
          have HUL := Lib.hid (up_last hx hy HRT.out.1)
          unfold rsv at HLS
          by_cases hlt2 : y.t < x.t
          · have HOK : Hid (RightP (xs.take (j + 1 + 1))) := right_one hx HRT.out hk (HUL.out.2 hlt2)
            rw [decide_eq_true hlt2] at HLS
            obtain ⟨⟨k, t, u, o, m, g⟩, A4, n4, c4, l4⟩ := x
            unfold Rw.t at HLS
            simp only at hk
            subst hk
            simp only at k0 k1 k2 k3 k4 k5 k6 HLS
            generalize y.r.target = v at *
            clear hx hm hb hrec hy hlt2 HUL hfx
            go_wp2
            go_quiet ((go_at_call 25; exact Calls.quiet_of (HLS.out _)))
            go_wp2
            exact ⟨⟨j + 1 + 1, by omega, by go_num, HOK.out, below_drewN2 HBR.out _⟩, by simp [intOf]; omega⟩
          · have HNO : Hid (¬ RightP xs) := fun h => hlt2 (HUL.out.1 (up_take h.1 _))
            rw [decide_eq_false hlt2] at HLS
            obtain ⟨⟨k, t, u, o, m, g⟩, A4, n4, c4, l4⟩ := x
            unfold Rw.t at HLS
            simp only at hk
            subst hk
            simp only at k0 k1 k2 k3 k4 k5 k6 HLS
            generalize y.r.target = v at *
            clear hx hm hb hrec hy hlt2 HUL hfx
            go_wp2
            go_quiet ((go_at_call 25; exact Calls.quiet_of (HLS.out _)))
            go_wp2
            go_ret
            exact ⟨tells_false HNO.out, below_drewN2 HBR.out _⟩
      · have HNO : Hid (¬ RightP xs) := fun h => hk (h.2 x hm)
        have d0 : (x.r.kind != 1) = true := by rw [bne_iff_ne]; exact hk
        obtain ⟨⟨k, t, u, o, m, g⟩, A4, n4, c4, l4⟩ := x
        simp only at k0 k1 k2 k3 k4 k5 k6 d0
        clear hx hm hb hrec hk hfx
        go_wp2
        go_quiet (fail)
        go_wp2
        go_ret
        exact ⟨tells_false HNO.out, below_drewN2 HBR.out _⟩
    · obtain rfl : i = n := by omega
      rw [List.take_of_length_le (by rw [HL.out]; omega)] at HRT
      clear hb
      go_wp2
      go_ret
      exact ⟨tells_true HRT.out, HBR.out⟩

end Go.Proofs.Ytbgjlkbfelgglaa
