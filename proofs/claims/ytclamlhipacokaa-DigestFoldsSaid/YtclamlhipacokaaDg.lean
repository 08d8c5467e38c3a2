/- The walk of DigestFolds. -/
import Derived.Test.YtclamlhipacokaaDf
import Derived.Test.YtclamlhipacokaaH
namespace Go.Proofs.Ytclamlhipacokaa
open Go.RowKit

set_option maxRecDepth 100000 in
set_option maxHeartbeats 400000 in
theorem folds_long (L : Option Addr) (n c : Nat) (v b : Value) (h : 100 < n) (w : World) :
    Calls Try.prog 5 #[v, .slice L n c, b] w fun e w' => e = .returned (.bool true) ∧ Below w.heap.size w w' := by
  go_enter Try.func5, Try.ntmps5
  go_wp2_with fail
  refine (fixed_any _).mono ?_; rintro e w3 ⟨rfl, hb3⟩
  go_wp2
  go_ret
  exact ⟨rfl, hb3⟩

set_option maxRecDepth 100000 in
set_option maxHeartbeats 1000000 in
theorem folds_short (L : Option Addr) (n c k : Nat) (b : Int) (x : Q64) (xs : List Q64) (hn : n ≤ 100) (hc : n ≤ c) (hb1 : b < 256) (hk : (b = (k : Int) ∧ k ≤ n) ∨ (k = n ∧ (n : Int) < b)) (w : World) (hr : Reads w w.heap.size 1 L n (xs.map qv)) :
    Calls Try.prog 5 #[qv x, .slice L n c, .int .u8 b] w fun e w' => e = .returned (.bool true) ∧ Below w.heap.size w w' := by
  have hkn : k ≤ n := by omega
  obtain ⟨L2, hL2⟩ : ∃ L2, L2 = (if c = k then L else L.map (·.add (k * 1))) := ⟨_, rfl⟩
  have h1 : ∀ W, Below w.heap.size w W → Calls Try.prog 11 #[qv x, .slice L n c] W fun e w' => e = .returned (qv (fo (dg x) xs)) ∧ Below W.heap.size W w' :=
    fun W hb => fold_any L n c x xs (by omega) W ((hr.below hb).more hb.size)
  have h2 : ∀ W, Below w.heap.size w W → Calls Try.prog 12 #[qv x, .slice L n c] W fun e w' => e = .returned (qv (fo (dg x) xs)) ∧ W = w' :=
    fun W hb => reffold_any L n c x xs (by omega) _ W (hr.below hb)
  have h3 : ∀ W, Below w.heap.size w W → Calls Try.prog 11 #[qv x, .slice L k c] W fun e w' => e = .returned (qv (fo (dg x) (xs.take k))) ∧ Below W.heap.size W w' :=
    fun W hb => fold_any L k c x (xs.take k) (by omega) W (by rw [List.map_take]; exact ((hr.take hkn).below hb).more hb.size)
  have h4 : ∀ W, Below w.heap.size w W → Calls Try.prog 12 #[qv x, .slice L k c] W fun e w' => e = .returned (qv (fo (dg x) (xs.take k))) ∧ W = w' :=
    fun W hb => reffold_any L k c x (xs.take k) (by omega) _ W (by rw [List.map_take]; exact (hr.take hkn).below hb)
  have h5 := fun W => back_any (fo (dg x) (xs.take k)) W
  have h6 : ∀ W, Below w.heap.size w W → Calls Try.prog 11 #[qv (dgb (fo (dg x) (xs.take k))), .slice L2 (n - k) (c - k)] W fun e w' => e = .returned (qv (fo (dg x) xs)) ∧ Below W.heap.size W w' := fun W hb => by
    have h := fold_any L2 (n - k) (c - k) (dgb (fo (dg x) (xs.take k))) (xs.drop k) (by omega) W (by
      have := hr.cut hkn hc
      rw [Nat.mul_one, ← List.map_drop] at this
      rw [hL2, Nat.mul_one]
      exact (this.below hb).more hb.size)
    rw [of_back, ← fo_append, List.take_append_drop] at h
    exact h
  unfold qv at *
  generalize (x.toNat : Int) = p at *
  generalize ((fo (dg x) xs).toNat : Int) = f at *
  generalize ((fo (dg x) (xs.take k)).toNat : Int) = h at *
  generalize ((dgb (fo (dg x) (xs.take k))).toNat : Int) = r at *
  have H1 := Lib.hid h1
  have H2 := Lib.hid h2
  have H3 := Lib.hid h3
  have H4 := Lib.hid h4
  have H5 := Lib.hid h5
  have H6 := Lib.hid h6
  have HL2 := Lib.hid hL2
  clear h1 h2 h3 h4 h5 h6 hr hL2
  rcases hk with ⟨rfl, hk⟩ | ⟨rfl, hk⟩
  · clear hk
    go_enter Try.func5, Try.ntmps5
    go_wp2_with fail
    refine (H3.out w (Below.refl _ w)).mono ?_; rintro e w3 ⟨rfl, hb3⟩
    go_wp2_with fail
    refine wp_region_held (S := fun W => Below w3.heap.size w3 W) (by kernel_rfl) ?_
    refine h_one 0 rfl (by kernel_rfl) (by kernel_rfl) (fun K hK => ?_)
    go_simp
    refine (fixed_any _).mono ?_
    rintro e w4 ⟨rfl, hb4⟩
    have hS4 : Below w3.heap.size w3 w4 := (Below.refl _ w3).drew.trans hb4
    refine hK _ _ hS4 ?_
    clear hK K
    refine h_take 1 (.bool true) rfl (by kernel_rfl) (by kernel_rfl) (by kernel_rfl) (fun _ _ _ h => h) (by kernel_rfl) hS4 (fun _ _ => by kernel_rfl) ?_
    refine h_take 2 (.int .u64 p) rfl (by kernel_rfl) (by kernel_rfl) (by kernel_rfl) (fun _ _ _ h => h) (by kernel_rfl) hS4 (fun _ _ => by kernel_rfl) ?_
    refine h_take 3 (.slice L n c) rfl (by kernel_rfl) (by kernel_rfl) (by kernel_rfl) (fun _ _ _ h => h) (by kernel_rfl) hS4 (fun _ _ => by kernel_rfl) ?_
    refine h_take 5 (.int .u64 p) rfl (by kernel_rfl) (by kernel_rfl) (by kernel_rfl) (fun _ _ _ h => h) (by kernel_rfl) hS4 (fun _ _ => by kernel_rfl) ?_
    refine h_take 6 (.slice L n c) rfl (by kernel_rfl) (by kernel_rfl) (by kernel_rfl) (fun _ _ _ h => h) (by kernel_rfl) hS4 (fun _ _ => by kernel_rfl) ?_
    refine h_one 4 rfl (by kernel_rfl) (by kernel_rfl) (fun K hK => ?_)
    go_simp
    refine (H1.out _ (hb3.trans (hS4.mono hb3.size))).mono ?_
    rintro e w5 ⟨rfl, hb5⟩
    have hS5 : Below w3.heap.size w3 w5 := hS4.trans (hb5.mono hS4.size)
    clear hb5
    refine hK _ _ hS5 ?_
    clear hK K
    refine h_one 7 rfl (by kernel_rfl) (by kernel_rfl) (fun K hK => ?_)
    go_simp
    refine (H2.out _ (hb3.trans (hS5.mono hb3.size))).mono ?_
    rintro e w6 ⟨rfl, rfl⟩
    refine hK _ _ hS5 ?_
    clear hK K
    refine h_take 8 (.bool true) rfl (by kernel_rfl) (by kernel_rfl) (by kernel_rfl) (fun _ _ _ h => h) (by kernel_rfl) hS5 (by intro w' hb; go_simp) ?_
    refine h_take 9 (.bool true) rfl (by kernel_rfl) (by kernel_rfl) (by kernel_rfl) (fun _ _ _ h => h) (by kernel_rfl) hS5 (fun _ _ => by kernel_rfl) ?_
    refine h_take 10 (.bool true) rfl (by kernel_rfl) (by kernel_rfl) (by kernel_rfl) (fun _ _ _ h => h) (by kernel_rfl) hS5 (fun _ _ => by kernel_rfl) ?_
    refine h_take 11 (.int .u64 h) rfl (by kernel_rfl) (by kernel_rfl) (by kernel_rfl) (fun _ _ _ h => h) (by kernel_rfl) hS5 (fun _ _ => by kernel_rfl) ?_
    refine h_take 12 (.int .u64 p) rfl (by kernel_rfl) (by kernel_rfl) (by kernel_rfl) (fun _ _ _ h => h) (by kernel_rfl) hS5 (fun _ _ => by kernel_rfl) ?_
    refine h_take 13 (.slice L n c) rfl (by kernel_rfl) (by kernel_rfl) (by kernel_rfl) (fun _ _ _ h => h) (by kernel_rfl) hS5 (fun _ _ => by kernel_rfl) ?_
    refine h_take 14 (.int .i64 (k : Int)) rfl (by kernel_rfl) (by kernel_rfl) (by kernel_rfl) (fun _ _ _ h => h) (by kernel_rfl) hS5 (fun _ _ => by kernel_rfl) ?_
    refine h_take 15 (.slice L k c) rfl (by kernel_rfl) (by kernel_rfl) (by kernel_rfl) (fun _ _ _ h => h) (by kernel_rfl) hS5 (by intro w' hb; go_simp <;> (intro hh; omega)) ?_
    refine h_one 16 rfl (by kernel_rfl) (by kernel_rfl) (fun K hK => ?_)
    go_simp
    refine (H4.out _ (hb3.trans (hS5.mono hb3.size))).mono ?_
    rintro e w6 ⟨rfl, rfl⟩
    refine hK _ _ hS5 ?_
    clear hK K
    refine h_take 17 (.bool true) rfl (by kernel_rfl) (by kernel_rfl) (by kernel_rfl) (fun _ _ _ h => h) (by kernel_rfl) hS5 (by intro w' hb; go_simp) ?_
    refine h_take 18 (.bool true) rfl (by kernel_rfl) (by kernel_rfl) (by kernel_rfl) (fun _ _ _ h => h) (by kernel_rfl) hS5 (fun _ _ => by kernel_rfl) ?_
    refine h_take 19 (.bool true) rfl (by kernel_rfl) (by kernel_rfl) (by kernel_rfl) (fun _ _ _ h => h) (by kernel_rfl) hS5 (fun _ _ => by kernel_rfl) ?_
    refine h_take 20 (.int .u64 h) rfl (by kernel_rfl) (by kernel_rfl) (by kernel_rfl) (fun _ _ _ h => h) (by kernel_rfl) hS5 (fun _ _ => by kernel_rfl) ?_
    refine h_take 22 (.slice L n c) rfl (by kernel_rfl) (by kernel_rfl) (by kernel_rfl) (fun _ _ _ h => h) (by kernel_rfl) hS5 (fun _ _ => by kernel_rfl) ?_
    refine h_take 23 (.int .i64 (k : Int)) rfl (by kernel_rfl) (by kernel_rfl) (by kernel_rfl) (fun _ _ _ h => h) (by kernel_rfl) hS5 (fun _ _ => by kernel_rfl) ?_
    refine h_take 24 (.slice L2 (n - k) (c - k)) rfl (by kernel_rfl) (by kernel_rfl) (by kernel_rfl) (fun _ _ _ h => h) (by kernel_rfl) hS5 (by intro w' hb; have e2 := HL2.out; go_simp <;> (intro hh; omega)) ?_
    refine h_take 26 (.int .u64 p) rfl (by kernel_rfl) (by kernel_rfl) (by kernel_rfl) (fun _ _ _ h => h) (by kernel_rfl) hS5 (fun _ _ => by kernel_rfl) ?_
    refine h_take 27 (.slice L n c) rfl (by kernel_rfl) (by kernel_rfl) (by kernel_rfl) (fun _ _ _ h => h) (by kernel_rfl) hS5 (fun _ _ => by kernel_rfl) ?_
    refine h_one 21 rfl (by kernel_rfl) (by kernel_rfl) (fun K hK => ?_)
    go_simp
    refine (H5.out _).mono ?_
    rintro e w6 ⟨rfl, hb6⟩
    have hS6 : Below w3.heap.size w3 w6 := hS5.trans (hb6.mono hS5.size)
    clear hb6
    refine hK _ _ hS6 ?_
    clear hK K
    refine h_one 25 rfl (by kernel_rfl) (by kernel_rfl) (fun K hK => ?_)
    go_simp
    refine (H6.out _ (hb3.trans (hS6.mono hb3.size))).mono ?_
    rintro e w7 ⟨rfl, hb7⟩
    have hS7 : Below w3.heap.size w3 w7 := hS6.trans (hb7.mono hS6.size)
    clear hb7
    refine hK _ _ hS7 ?_
    clear hK K
    refine h_one 28 rfl (by kernel_rfl) (by kernel_rfl) (fun K hK => ?_)
    go_simp
    refine (H2.out _ (hb3.trans (hS7.mono hb3.size))).mono ?_
    rintro e w8 ⟨rfl, rfl⟩
    refine hK _ _ hS7 ?_
    clear hK K
    refine h_take 29 (.bool true) rfl (by kernel_rfl) (by kernel_rfl) (by kernel_rfl) (fun _ _ _ h => h) (by kernel_rfl) hS7 (by intro w' hb; go_simp) ?_
    refine h_take 30 (.bool true) rfl (by kernel_rfl) (by kernel_rfl) (by kernel_rfl) (fun _ _ _ h => h) (by kernel_rfl) hS7 (fun _ _ => by kernel_rfl) ?_
    refine h_take 31 (.bool true) rfl (by kernel_rfl) (by kernel_rfl) (by kernel_rfl) (fun _ _ _ h => h) (by kernel_rfl) hS7 (fun _ _ => by kernel_rfl) ?_
    refine wpAnyH_done (by kernel_rfl) ?_ _
    go_simp
    go_wp2
    go_ret
    exact ⟨rfl, hb3.trans (hS7.mono hb3.size)⟩
  · rw [Nat.sub_self] at H6
    clear hkn
    go_enter Try.func5, Try.ntmps5
    go_wp2_with fail
    refine (H3.out w (Below.refl _ w)).mono ?_; rintro e w3 ⟨rfl, hb3⟩
    go_wp2_with fail
    refine wp_region_held (S := fun W => Below w3.heap.size w3 W) (by kernel_rfl) ?_
    refine h_one 0 rfl (by kernel_rfl) (by kernel_rfl) (fun K hK => ?_)
    go_simp
    refine (fixed_any _).mono ?_
    rintro e w4 ⟨rfl, hb4⟩
    have hS4 : Below w3.heap.size w3 w4 := (Below.refl _ w3).drew.trans hb4
    refine hK _ _ hS4 ?_
    clear hK K
    refine h_take 1 (.bool true) rfl (by kernel_rfl) (by kernel_rfl) (by kernel_rfl) (fun _ _ _ h => h) (by kernel_rfl) hS4 (fun _ _ => by kernel_rfl) ?_
    refine h_take 2 (.int .u64 p) rfl (by kernel_rfl) (by kernel_rfl) (by kernel_rfl) (fun _ _ _ h => h) (by kernel_rfl) hS4 (fun _ _ => by kernel_rfl) ?_
    refine h_take 3 (.slice L k c) rfl (by kernel_rfl) (by kernel_rfl) (by kernel_rfl) (fun _ _ _ h => h) (by kernel_rfl) hS4 (fun _ _ => by kernel_rfl) ?_
    refine h_take 5 (.int .u64 p) rfl (by kernel_rfl) (by kernel_rfl) (by kernel_rfl) (fun _ _ _ h => h) (by kernel_rfl) hS4 (fun _ _ => by kernel_rfl) ?_
    refine h_take 6 (.slice L k c) rfl (by kernel_rfl) (by kernel_rfl) (by kernel_rfl) (fun _ _ _ h => h) (by kernel_rfl) hS4 (fun _ _ => by kernel_rfl) ?_
    refine h_one 4 rfl (by kernel_rfl) (by kernel_rfl) (fun K hK => ?_)
    go_simp
    refine (H1.out _ (hb3.trans (hS4.mono hb3.size))).mono ?_
    rintro e w5 ⟨rfl, hb5⟩
    have hS5 : Below w3.heap.size w3 w5 := hS4.trans (hb5.mono hS4.size)
    clear hb5
    refine hK _ _ hS5 ?_
    clear hK K
    refine h_one 7 rfl (by kernel_rfl) (by kernel_rfl) (fun K hK => ?_)
    go_simp
    refine (H2.out _ (hb3.trans (hS5.mono hb3.size))).mono ?_
    rintro e w6 ⟨rfl, rfl⟩
    refine hK _ _ hS5 ?_
    clear hK K
    refine h_take 8 (.bool true) rfl (by kernel_rfl) (by kernel_rfl) (by kernel_rfl) (fun _ _ _ h => h) (by kernel_rfl) hS5 (by intro w' hb; go_simp) ?_
    refine h_take 9 (.bool true) rfl (by kernel_rfl) (by kernel_rfl) (by kernel_rfl) (fun _ _ _ h => h) (by kernel_rfl) hS5 (fun _ _ => by kernel_rfl) ?_
    refine h_take 10 (.bool true) rfl (by kernel_rfl) (by kernel_rfl) (by kernel_rfl) (fun _ _ _ h => h) (by kernel_rfl) hS5 (fun _ _ => by kernel_rfl) ?_
    refine h_take 11 (.int .u64 h) rfl (by kernel_rfl) (by kernel_rfl) (by kernel_rfl) (fun _ _ _ h => h) (by kernel_rfl) hS5 (fun _ _ => by kernel_rfl) ?_
    refine h_take 12 (.int .u64 p) rfl (by kernel_rfl) (by kernel_rfl) (by kernel_rfl) (fun _ _ _ h => h) (by kernel_rfl) hS5 (fun _ _ => by kernel_rfl) ?_
    refine h_take 13 (.slice L k c) rfl (by kernel_rfl) (by kernel_rfl) (by kernel_rfl) (fun _ _ _ h => h) (by kernel_rfl) hS5 (fun _ _ => by kernel_rfl) ?_
    refine h_take 14 (.int .i64 (k : Int)) rfl (by kernel_rfl) (by kernel_rfl) (by kernel_rfl) (fun _ _ _ h => h) (by kernel_rfl) hS5 (fun _ _ => by kernel_rfl) ?_
    refine h_take 15 (.slice L k c) rfl (by kernel_rfl) (by kernel_rfl) (by kernel_rfl) (fun _ _ _ h => h) (by kernel_rfl) hS5 (by intro w' hb; go_simp <;> (intro hh; omega)) ?_
    refine h_one 16 rfl (by kernel_rfl) (by kernel_rfl) (fun K hK => ?_)
    go_simp
    refine (H4.out _ (hb3.trans (hS5.mono hb3.size))).mono ?_
    rintro e w6 ⟨rfl, rfl⟩
    refine hK _ _ hS5 ?_
    clear hK K
    refine h_take 17 (.bool true) rfl (by kernel_rfl) (by kernel_rfl) (by kernel_rfl) (fun _ _ _ h => h) (by kernel_rfl) hS5 (by intro w' hb; go_simp) ?_
    refine h_take 18 (.bool true) rfl (by kernel_rfl) (by kernel_rfl) (by kernel_rfl) (fun _ _ _ h => h) (by kernel_rfl) hS5 (fun _ _ => by kernel_rfl) ?_
    refine h_take 19 (.bool true) rfl (by kernel_rfl) (by kernel_rfl) (by kernel_rfl) (fun _ _ _ h => h) (by kernel_rfl) hS5 (fun _ _ => by kernel_rfl) ?_
    refine h_take 20 (.int .u64 h) rfl (by kernel_rfl) (by kernel_rfl) (by kernel_rfl) (fun _ _ _ h => h) (by kernel_rfl) hS5 (fun _ _ => by kernel_rfl) ?_
    refine h_take 22 (.slice L k c) rfl (by kernel_rfl) (by kernel_rfl) (by kernel_rfl) (fun _ _ _ h => h) (by kernel_rfl) hS5 (fun _ _ => by kernel_rfl) ?_
    refine h_take 23 (.int .i64 (k : Int)) rfl (by kernel_rfl) (by kernel_rfl) (by kernel_rfl) (fun _ _ _ h => h) (by kernel_rfl) hS5 (fun _ _ => by kernel_rfl) ?_
    refine h_take 24 (.slice L2 0 (c - k)) rfl (by kernel_rfl) (by kernel_rfl) (by kernel_rfl) (fun _ _ _ h => h) (by kernel_rfl) hS5 (by intro w' hb; have e2 := HL2.out; go_simp <;> (intro hh; omega)) ?_
    refine h_take 26 (.int .u64 p) rfl (by kernel_rfl) (by kernel_rfl) (by kernel_rfl) (fun _ _ _ h => h) (by kernel_rfl) hS5 (fun _ _ => by kernel_rfl) ?_
    refine h_take 27 (.slice L k c) rfl (by kernel_rfl) (by kernel_rfl) (by kernel_rfl) (fun _ _ _ h => h) (by kernel_rfl) hS5 (fun _ _ => by kernel_rfl) ?_
    refine h_one 21 rfl (by kernel_rfl) (by kernel_rfl) (fun K hK => ?_)
    go_simp
    refine (H5.out _).mono ?_
    rintro e w6 ⟨rfl, hb6⟩
    have hS6 : Below w3.heap.size w3 w6 := hS5.trans (hb6.mono hS5.size)
    clear hb6
    refine hK _ _ hS6 ?_
    clear hK K
    refine h_one 25 rfl (by kernel_rfl) (by kernel_rfl) (fun K hK => ?_)
    go_simp
    refine (H6.out _ (hb3.trans (hS6.mono hb3.size))).mono ?_
    rintro e w7 ⟨rfl, hb7⟩
    have hS7 : Below w3.heap.size w3 w7 := hS6.trans (hb7.mono hS6.size)
    clear hb7
    refine hK _ _ hS7 ?_
    clear hK K
    refine h_one 28 rfl (by kernel_rfl) (by kernel_rfl) (fun K hK => ?_)
    go_simp
    refine (H2.out _ (hb3.trans (hS7.mono hb3.size))).mono ?_
    rintro e w8 ⟨rfl, rfl⟩
    refine hK _ _ hS7 ?_
    clear hK K
    refine h_take 29 (.bool true) rfl (by kernel_rfl) (by kernel_rfl) (by kernel_rfl) (fun _ _ _ h => h) (by kernel_rfl) hS7 (by intro w' hb; go_simp) ?_
    refine h_take 30 (.bool true) rfl (by kernel_rfl) (by kernel_rfl) (by kernel_rfl) (fun _ _ _ h => h) (by kernel_rfl) hS7 (fun _ _ => by kernel_rfl) ?_
    refine h_take 31 (.bool true) rfl (by kernel_rfl) (by kernel_rfl) (by kernel_rfl) (fun _ _ _ h => h) (by kernel_rfl) hS7 (fun _ _ => by kernel_rfl) ?_
    refine wpAnyH_done (by kernel_rfl) ?_ _
    go_simp
    go_wp2
    go_ret
    exact ⟨rfl, hb3.trans (hS7.mono hb3.size)⟩

theorem folds_any (L : Option Addr) (n c : Nat) (b : Int) (x : Q64) (xs : List Q64) (hc : n ≤ c) (hb0 : 0 ≤ b) (hb1 : b < 256) (w : World) (hr : Reads w w.heap.size 1 L n (xs.map qv)) :
    Calls Try.prog 5 #[qv x, .slice L n c, .int .u8 b] w fun e w' => e = .returned (.bool true) ∧ Below w.heap.size w w' := by
  by_cases h : 100 < n
  · exact folds_long L n c _ _ h w
  · by_cases h2 : (n : Int) < b
    · exact folds_short L n c n b x xs (by omega) hc hb1 (.inr ⟨rfl, h2⟩) w hr
    · exact folds_short L n c b.toNat b x xs (by omega) hc hb1 (.inl ⟨by omega, by omega⟩) w hr

end Go.Proofs.Ytclamlhipacokaa
