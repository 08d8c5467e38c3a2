/- The walk of blob.Get: at every list of bytes, every place and every most. -/
import Derived.Test.YtoanmbhnhofoiaaDoorBk
import Derived.Test.YtoanmbhnhofoiaaDoorG
namespace Go.Proofs.YtoanmbhnhofoiaaDoor
open Go.RowKit Go.Shelf
attribute [local go_sem] Oper.semAt_some

/-- What Get answers. -/
def bres (r : List UInt8 × Nat × Nat) : Value := .tuple #[.string (tx r.1), .int .i64 (r.2.1 : Int), .int .i64 (r.2.2 : Int)]

set_option maxRecDepth 100000 in
set_option maxHeartbeats 400000 in
theorem bget_err (A : Option Addr) (n c : Nat) (at_ most : Int) (e0 : Nat) (he : e0 = 1 ∨ e0 = 2 ∨ e0 = 3) (w : World)
    (h : Calls Tryd.prog 38 #[.slice A n c, .int .i64 at_] w fun e w' => e = .returned (.tuple #[.int .u64 0, .int .i64 0, .int .i64 (e0 : Int)]) ∧ w = w') :
    Calls Tryd.prog 31 #[.slice A n c, .int .i64 at_, .int .i64 most] w fun e w' => e = .returned (bres ([], 0, e0)) ∧ w = w' := by
  have H := Lib.hid h
  clear h
  rcases he with rfl | rfl | rfl
  all_goals
    go_enter Tryd.func31, Tryd.ntmps31
    go_wp2_with (go_at_call 38; refine H.out.mono ?_; rintro e w' ⟨rfl, rfl⟩)
    go_ret3
    exact ⟨rfl, rfl⟩

theorem max_val (most : Int) : (if most < 0 then (0 : Int) else most) = max most 0 := by
  by_cases h : most < 0
  · rw [if_pos h]; omega
  · rw [if_neg h]; omega

set_option maxRecDepth 100000 in
set_option maxHeartbeats 400000 in
theorem bget_go (A : Option Addr) (n c at_ m k : Nat) (most : Int) (B : Nat) (bs : List UInt8) (hc : n ≤ c) (hn : n ≤ 1073741824) (hmost : most < 9223372036854775808) (hm : m < top) (hk : 1 ≤ k) (hkn : at_ + k ≤ n) (hg : gr 0 0 (bs.drop at_) = (m, k, 0)) (w : World) (hr : Reads w B 1 A n (bs.map bv))
    (h : Calls Tryd.prog 38 #[.slice A n c, .int .i64 (at_ : Int)] w fun e w' => e = .returned (.tuple #[.int .u64 (m : Int), .int .i64 ((at_ + k : Nat) : Int), .int .i64 0]) ∧ w = w') :
    Calls Tryd.prog 31 #[.slice A n c, .int .i64 (at_ : Int), .int .i64 most] w fun e w' => e = .returned (bres (bg most at_ bs)) ∧ w = w' := by
  obtain ⟨f, hf⟩ : ∃ f, f = at_ + k := ⟨_, rfl⟩
  rw [← hf] at h hkn
  have hf1 : 1 ≤ f := by omega
  have hl : bs.length = n := by have := hr.1; simpa using this
  have hM : (most < 0 ∧ max most 0 = 0) ∨ (¬ most < 0 ∧ max most 0 = most) := by omega
  obtain ⟨M, hMM⟩ : ∃ M, M = max most 0 := ⟨_, rfl⟩
  have H := Lib.hid h
  have HF := Lib.hid hf
  have HG := Lib.hid hg
  have HL := Lib.hid hl
  have HM := Lib.hid hm
  clear h hf hg hl hm
  have hw : IntKind.u64.wrap M = M := by rw [IntKind.wrap_u64]; omega
  have HMM := Lib.hid hMM
  rw [← hMM] at hM
  clear hMM
  have hw2 : IntKind.u64.wrap ((n : Int) - (f : Int)) = ((n - f : Nat) : Int) := by rw [IntKind.wrap_u64]; omega
  by_cases h1 : M < (m : Int)
  · have hres : Hid (bg most at_ bs = ([], 0, 5)) := bg_limit HG.out (by rw [← HMM.out]; exact h1)
    rcases hM with ⟨hM0, hM1⟩ | ⟨hM0, hM1⟩
    all_goals
      subst hM1
      clear HMM
      go_enter Tryd.func31, Tryd.ntmps31
      go_wp2_with (go_at_call 38; refine H.out.mono ?_; rintro e w' ⟨rfl, rfl⟩)
      go_ret3
      exact ⟨by rw [hres.out]; rfl, rfl⟩
  · by_cases h2 : n - f < m
    · have hres : Hid (bg most at_ bs = ([], 0, 2)) := bg_short HG.out (by rw [← HMM.out]; exact h1) (by rw [HL.out, ← HF.out]; exact h2)
      rcases hM with ⟨hM0, hM1⟩ | ⟨hM0, hM1⟩
      · exact absurd h2 (by omega)
      · subst hM1
        clear HMM
        go_enter Tryd.func31, Tryd.ntmps31
        go_wp2_with (go_at_call 38; refine H.out.mono ?_; rintro e w' ⟨rfl, rfl⟩)
        go_ret3
        exact ⟨by rw [hres.out]; rfl, rfl⟩
    · have hres : Hid (bg most at_ bs = ((bs.drop f).take m, f + m, 0)) := by
        have := bg_ok HG.out (by rw [← HMM.out]; exact h1) (by rw [HL.out, ← HF.out]; exact h2)
        rwa [← HF.out] at this
      have hw3 : IntKind.i64.wrap (m : Int) = (m : Int) := by rw [IntKind.wrap_i64]; omega
      have hle : f + m ≤ n := by omega
      have hle2 : f + m ≤ c := by omega
      obtain ⟨nx, hnx⟩ : ∃ nx, nx = f + m := ⟨_, rfl⟩
      have hnx' : (f : Int) + (m : Int) = (nx : Int) := by omega
      have hsub : nx - f = m := by omega
      rw [← hnx] at hle hle2 hres
      have hfn : f ≤ nx := by omega
      have HNX := Lib.hid hnx
      clear hnx
      by_cases hcf : c = f
      · subst hcf
        have hm0 : m = 0 := by have := HNX.out; omega
        subst hm0
        obtain rfl : nx = c := by have := HNX.out; omega
        have hcv : (convert 22 9 (.slice A 0 0)).run Tryd.prog w = .ok (.string (tx [])) w := conv_reads (bs := []) Tryd.underlying22 Tryd.underlying5 Tryd.underlying9 (hr.take (k := 0) (by omega))
        rcases hM with ⟨hM0, hM1⟩ | ⟨hM0, hM1⟩
        all_goals
          subst hM1
          clear HMM
          go_enter Tryd.func31, Tryd.ntmps31
          go_wp2_with (go_at_call 38; refine H.out.mono ?_; rintro e w' ⟨rfl, rfl⟩)
          go_ret3
          exact ⟨by rw [hres.out]; rfl, rfl⟩
      · have hcv : (convert 22 9 (.slice (A.map (fun x => x.add f)) m (c - f))).run Tryd.prog w = .ok (.string (tx ((bs.drop f).take m))) w := by
          have h1 := hr.cut (cap := c) (k := f) (by omega) hc
          rw [if_neg hcf, Nat.mul_one, ← List.map_drop] at h1
          have h2 := h1.take (k := m) (by omega)
          rw [← List.map_take] at h2
          exact conv_reads Tryd.underlying22 Tryd.underlying5 Tryd.underlying9 h2
        rcases hM with ⟨hM0, hM1⟩ | ⟨hM0, hM1⟩
        all_goals
          subst hM1
          clear HMM
          go_enter Tryd.func31, Tryd.ntmps31
          go_wp2_with (go_at_call 38; refine H.out.mono ?_; rintro e w' ⟨rfl, rfl⟩)
          go_ret3
          exact ⟨by rw [hres.out]; rfl, rfl⟩

/-- **blob.Get, at every list of bytes, every place of it and every most.** -/
theorem bget_any (A : Option Addr) (n c at_ : Nat) (most : Int) (B : Nat) (bs : List UInt8) (hc : n ≤ c) (hn : n ≤ 1073741824) (hmost : most < 9223372036854775808) (hat : at_ ≤ n) (w : World) (hr : Reads w B 1 A n (bs.map bv)) :
    Calls Tryd.prog 31 #[.slice A n c, .int .i64 (at_ : Int), .int .i64 most] w fun e w' => e = .returned (bres (bg most at_ bs)) ∧ w = w' := by
  have h := get_any A n c at_ B bs hc hn hat w hr
  have hl : bs.length = n := by have := hr.1; simpa using this
  rcases gr_three (bs.drop at_) 0 0 with hg | hg | ⟨m, k, hg⟩
  · rw [hg] at h
    have hb : bg most at_ bs = ([], 0, 2) := bg_err hg (by decide)
    rw [hb]
    exact bget_err A n c at_ most 2 (by omega) w h
  · rw [hg] at h
    have hb : bg most at_ bs = ([], 0, 3) := bg_err hg (by decide)
    rw [hb]
    exact bget_err A n c at_ most 3 (by omega) w h
  · obtain ⟨hm, hk1, hk2, _⟩ := gr_ok0 hg
    rw [List.length_drop] at hk2
    rw [hg] at h
    exact bget_go A n c at_ m k most B bs hc hn hmost hm hk1 (by omega) hg w hr h

theorem bget_bad (A : Option Addr) (n c : Nat) (at_ most : Int) (h : at_ < 0 ∨ (n : Int) < at_) (w : World) :
    Calls Tryd.prog 31 #[.slice A n c, .int .i64 at_, .int .i64 most] w fun e w' => e = .returned (bres ([], 0, 1)) ∧ w = w' :=
  bget_err A n c at_ most 1 (by omega) w (get_bad A n c at_ h w)

end Go.Proofs.YtoanmbhnhofoiaaDoor
