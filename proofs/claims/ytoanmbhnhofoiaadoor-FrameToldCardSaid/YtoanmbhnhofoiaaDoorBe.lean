/- The walk of the document's Get of tephraref02: at every text, every place and every most. -/
import Derived.Test.YtoanmbhnhofoiaaDoorBd0
namespace Go.Proofs.YtoanmbhnhofoiaaDoor
open Go.RowKit Go.Shelf

theorem tx_extract (bs : List UInt8) (i j : Nat) : (tx bs).extract i j = tx ((bs.drop i).take (j - i)) := by
  apply ByteArray.ext
  simp [tx, ByteArray.data_extract, List.extract_toArray, List.extract_eq_take_drop]

set_option maxRecDepth 100000 in
set_option maxHeartbeats 400000 in
theorem rbget_err (s : ByteArray) (at_ most : Int) (e0 : Nat) (he : e0 = 1 ∨ e0 = 2 ∨ e0 = 3) (w : World)
    (h : Calls Tryd.prog 39 #[.string s, .int .i64 at_] w fun e w' => e = .returned (.tuple #[.int .u64 0, .int .i64 0, .int .i64 (e0 : Int)]) ∧ w = w') :
    Calls Tryd.prog 32 #[.string s, .int .i64 at_, .int .i64 most] w fun e w' => e = .returned (bres ([], 0, e0)) ∧ w = w' := by
  have H := Lib.hid h
  clear h
  rcases he with rfl | rfl | rfl
  all_goals
    go_enter Tryd.func32, Tryd.ntmps32
    go_wp2_with (go_at_call 39; refine H.out.mono ?_; rintro e w' ⟨rfl, rfl⟩)
    go_ret3
    exact ⟨rfl, rfl⟩

set_option maxRecDepth 100000 in
set_option maxHeartbeats 400000 in
theorem rbget_go (at_ m k : Nat) (most : Int) (bs : List UInt8) (hn : bs.length ≤ 1073741824) (hmost : most < 9223372036854775808) (hm : m < top) (hk : 1 ≤ k) (hkn : at_ + k ≤ bs.length) (hg : gr 0 0 (bs.drop at_) = (m, k, 0)) (w : World)
    (h : Calls Tryd.prog 39 #[.string (tx bs), .int .i64 (at_ : Int)] w fun e w' => e = .returned (.tuple #[.int .u64 (m : Int), .int .i64 ((at_ + k : Nat) : Int), .int .i64 0]) ∧ w = w') :
    Calls Tryd.prog 32 #[.string (tx bs), .int .i64 (at_ : Int), .int .i64 most] w fun e w' => e = .returned (bres (bg most at_ bs)) ∧ w = w' := by
  obtain ⟨f, hf⟩ : ∃ f, f = at_ + k := ⟨_, rfl⟩
  rw [← hf] at h hkn
  obtain ⟨n, hl⟩ : ∃ n, n = bs.length := ⟨_, rfl⟩
  rw [← hl] at hkn hn
  have hf1 : 1 ≤ f := by omega
  have hM : (most < 0 ∧ max most 0 = 0) ∨ (¬ most < 0 ∧ max most 0 = most) := by omega
  obtain ⟨M, hMM⟩ : ∃ M, M = max most 0 := ⟨_, rfl⟩
  have hsz0 : (tx bs).size = n := by rw [tx_size, hl]
  have hex0 := tx_extract bs f (f + m)
  obtain ⟨s, hs⟩ : ∃ s, s = tx bs := ⟨_, rfl⟩
  rw [← hs] at h hsz0 hex0 ⊢
  have H := Lib.hid h
  have HF := Lib.hid hf
  have HG := Lib.hid hg
  have HL := Lib.hid hl
  have HM := Lib.hid hm
  have hw : IntKind.u64.wrap M = M := by rw [IntKind.wrap_u64]; omega
  have hw2 : IntKind.u64.wrap (n : Int) = (n : Int) := by rw [IntKind.wrap_u64]; omega
  clear h hf hg hl hm hs
  have HMM := Lib.hid hMM
  rw [← hMM] at hM
  clear hMM
  by_cases h1 : M < (m : Int)
  · have hres : Hid (bg most at_ bs = ([], 0, 5)) := bg_limit HG.out (by rw [← HMM.out]; exact h1)
    clear hex0
    rcases hM with ⟨hM0, hM1⟩ | ⟨hM0, hM1⟩
    all_goals
      subst hM1
      clear HMM
      go_enter Tryd.func32, Tryd.ntmps32
      go_wp2_with (go_at_call 39; refine H.out.mono ?_; rintro e w' ⟨rfl, rfl⟩)
      go_ret3
      exact ⟨by rw [hres.out]; rfl, rfl⟩
  · by_cases h2 : n - f < m
    · have hres : Hid (bg most at_ bs = ([], 0, 2)) := bg_short HG.out (by rw [← HMM.out]; exact h1) (by rw [← HL.out, ← HF.out]; exact h2)
      clear hex0
      rcases hM with ⟨hM0, hM1⟩ | ⟨hM0, hM1⟩
      · exact absurd h2 (by omega)
      · subst hM1
        clear HMM
        by_cases h3 : n < m
        · go_enter Tryd.func32, Tryd.ntmps32
          go_wp2_with (go_at_call 39; refine H.out.mono ?_; rintro e w' ⟨rfl, rfl⟩)
          go_ret3
          exact ⟨by rw [hres.out]; rfl, rfl⟩
        · have hw3 : IntKind.i64.wrap (m : Int) = (m : Int) := by rw [IntKind.wrap_i64]; omega
          have hd : decide ((n : Int) < (f : Int) + (m : Int)) = true := decide_eq_true (by omega)
          go_enter Tryd.func32, Tryd.ntmps32
          go_wp2_with (go_at_call 39; refine H.out.mono ?_; rintro e w' ⟨rfl, rfl⟩)
          go_ret3
          exact ⟨by rw [hres.out]; rfl, rfl⟩
    · have hres : Hid (bg most at_ bs = ((bs.drop f).take m, f + m, 0)) := by
        have := bg_ok HG.out (by rw [← HMM.out]; exact h1) (by rw [← HL.out, ← HF.out]; exact h2)
        rwa [← HF.out] at this
      have hw3 : IntKind.i64.wrap (m : Int) = (m : Int) := by rw [IntKind.wrap_i64]; omega
      have hle : f + m ≤ n := by omega
      obtain ⟨nx, hnx⟩ : ∃ nx, nx = f + m := ⟨_, rfl⟩
      have hnx' : (f : Int) + (m : Int) = (nx : Int) := by omega
      have hnm : ¬ n < m := by omega
      have hsub : f + m - f = m := by omega
      rw [hsub, ← hnx] at hex0
      rw [← hnx] at hle hres
      have hfn : f ≤ nx := by omega
      clear hsub
      have HNX := Lib.hid hnx
      clear hnx
      rcases hM with ⟨hM0, hM1⟩ | ⟨hM0, hM1⟩
      all_goals
        subst hM1
        clear HMM
        go_enter Tryd.func32, Tryd.ntmps32
        go_wp2_with (go_at_call 39; refine H.out.mono ?_; rintro e w' ⟨rfl, rfl⟩)
        go_ret3
        exact ⟨by rw [hres.out]; rfl, rfl⟩

/-- **The document's Get, at every text, every place of it and every most.** -/
theorem rbget_any (at_ : Nat) (most : Int) (bs : List UInt8) (hn : bs.length ≤ 1073741824) (hmost : most < 9223372036854775808) (hat : at_ ≤ bs.length) (w : World) :
    Calls Tryd.prog 32 #[.string (tx bs), .int .i64 (at_ : Int), .int .i64 most] w fun e w' => e = .returned (bres (bg most at_ bs)) ∧ w = w' := by
  have h := refget_on at_ bs hn hat w
  rcases gr_three (bs.drop at_) 0 0 with hg | hg | ⟨m, k, hg⟩
  · rw [hg] at h
    have hb : bg most at_ bs = ([], 0, 2) := bg_err hg (by decide)
    rw [hb]
    exact rbget_err (tx bs) at_ most 2 (by omega) w h
  · rw [hg] at h
    have hb : bg most at_ bs = ([], 0, 3) := bg_err hg (by decide)
    rw [hb]
    exact rbget_err (tx bs) at_ most 3 (by omega) w h
  · obtain ⟨hm, hk1, hk2, _⟩ := gr_ok0 hg
    rw [List.length_drop] at hk2
    rw [hg] at h
    exact rbget_go at_ m k most bs hn hmost hm hk1 (by omega) hg w h

theorem rbget_bad (bs : List UInt8) (at_ most : Int) (h : at_ < 0 ∨ (bs.length : Int) < at_) (w : World) :
    Calls Tryd.prog 32 #[.string (tx bs), .int .i64 at_, .int .i64 most] w fun e w' => e = .returned (bres ([], 0, 1)) ∧ w = w' :=
  rbget_err (tx bs) at_ most 1 (by omega) w (refget_bad (tx bs) at_ (by rw [tx_size]; exact h) w)

end Go.Proofs.YtoanmbhnhofoiaaDoor
