/- The plain mathematics of reading a number's bytes: what is read is what was laid, and has just these bytes. -/
import Derived.Test.YtfdncdejjlcgpaaM
namespace Go.Proofs.Ytfdncdejjlcgpaa

theorem u8_back (c : UInt8) : UInt8.ofNat c.toNat = c := by simp

/-- What is read has just the bytes that were read. -/
theorem gr_ok : ∀ (ys : List UInt8) (i a n k : Nat), i ≤ 9 → gr i a ys = (n, k, 0) →
    ∃ m j, n = a + m * 128 ^ i ∧ k = i + j ∧ 1 ≤ j ∧ j ≤ ys.length ∧ vb m = ys.take j ∧ (i = 0 ∨ m ≠ 0) ∧ (m + 1) * 128 ^ i ≤ top
  | [], i, a, n, k, _, h => by rw [gr] at h; simp at h
  | c :: l, i, a, n, k, hi, h => by
    by_cases hok : ¬ (i = 9 ∧ 1 < c.toNat) ∧ (i = 0 ∨ c.toNat ≠ 0)
    · by_cases h128 : c.toNat < 128
      · rw [gr_last hok h128] at h
        simp only [Prod.mk.injEq] at h
        refine ⟨c.toNat, 1, h.1.symm, h.2.1.symm, Nat.le_refl _, by simp, ?_, hok.2, ?_⟩
        · rw [vb_lt h128, u8_back]; simp
        · by_cases h9 : i = 9
          · subst h9
            have h1 : c.toNat ≤ 1 := by have := hok.1; omega
            have h2 : (c.toNat + 1) * 128 ^ 9 ≤ 2 * 128 ^ 9 := Nat.mul_le_mul_right _ (by omega)
            unfold top; omega
          · have h1 : 128 ^ i ≤ 128 ^ 8 := Nat.pow_le_pow_right (by omega) (by omega)
            have h2 : (c.toNat + 1) * 128 ^ i ≤ 128 * 128 ^ 8 := Nat.mul_le_mul (by omega) h1
            unfold top; omega
      · rw [gr_on hok h128] at h
        have hi8 : i ≤ 8 := by have := hok.1; omega
        obtain ⟨m, j, hn, hk, hj, hjl, hv, hm, ht⟩ := gr_ok l (i + 1) _ n k (by omega) h
        have hm0 : m ≠ 0 := by omega
        have hc := c.toNat_lt
        refine ⟨c.toNat % 128 + 128 * m, j + 1, ?_, by omega, by omega, by simpa using hjl, ?_, .inr (by omega), ?_⟩
        · rw [hn, Nat.pow_succ, Nat.add_mul]
          have : 128 * m * 128 ^ i = m * (128 ^ i * 128) := by rw [Nat.mul_comm 128 m, Nat.mul_assoc, Nat.mul_comm 128]
          omega
        · rw [vb_ge (by omega)]
          have e1 : (c.toNat % 128 + 128 * m) / 128 = m := by omega
          have e2 : (c.toNat % 128 + 128 * m) % 128 + 128 = c.toNat := by omega
          rw [e1, e2, u8_back, hv]
          simp
        · rw [Nat.pow_succ] at ht
          have h1 : (c.toNat % 128 + 128 * m + 1) * 128 ^ i ≤ (128 * (m + 1)) * 128 ^ i := Nat.mul_le_mul_right _ (by omega)
          have h2 : (128 * (m + 1)) * 128 ^ i = (m + 1) * (128 ^ i * 128) := by rw [Nat.mul_comm 128 (m + 1), Nat.mul_assoc, Nat.mul_comm 128]
          omega
    · rw [gr_bad hok] at h; simp at h

theorem gr_three : ∀ (ys : List UInt8) (i a : Nat), gr i a ys = (0, 0, 2) ∨ gr i a ys = (0, 0, 3) ∨ ∃ n k, gr i a ys = (n, k, 0)
  | [], i, a => .inl (by rw [gr])
  | c :: l, i, a => by
    by_cases hok : ¬ (i = 9 ∧ 1 < c.toNat) ∧ (i = 0 ∨ c.toNat ≠ 0)
    · by_cases h128 : c.toNat < 128
      · exact .inr (.inr ⟨_, _, gr_last hok h128⟩)
      · rw [gr_on hok h128]
        exact gr_three l (i + 1) _
    · exact .inr (.inl (gr_bad hok))

theorem gr_ok0 {ys : List UInt8} {n k : Nat} (h : gr 0 0 ys = (n, k, 0)) : n < top ∧ 1 ≤ k ∧ k ≤ ys.length ∧ vb n = ys.take k := by
  obtain ⟨m, j, hn, hk, h1, h2, h3, _, h4⟩ := gr_ok ys 0 0 n k (by omega) h
  have e : m = n := by simpa using hn.symm
  have e2 : j = k := by omega
  subst e; subst e2
  exact ⟨by have : (m + 1) * 128 ^ 0 = m + 1 := by simp
            omega, h1, h2, h3⟩

/-- What was laid is read, whatever stands behind. -/
theorem gr_laid (tail : List UInt8) : ∀ (m i a : Nat), i ≤ 9 → (i = 0 ∨ m ≠ 0) → (m + 1) * 128 ^ i ≤ top → gr i a (vb m ++ tail) = (a + m * 128 ^ i, i + (vb m).length, 0) := by
  intro m
  induction m using Nat.strongRecOn with
  | ind m ih =>
    intro i a hi hm ht
    by_cases h1 : m < 128
    · rw [vb_lt h1]
      have e : (UInt8.ofNat m).toNat = m := u8_ofNat m (by omega)
      show gr i a (UInt8.ofNat m :: tail) = _
      rw [gr_last (by
        rw [e]
        refine ⟨fun h => ?_, hm⟩
        obtain ⟨rfl, h2⟩ := h
        have h3 : 3 * 128 ^ 9 ≤ (m + 1) * 128 ^ 9 := Nat.mul_le_mul_right _ (by omega)
        unfold top at ht; omega) (by rw [e]; exact h1), e]
      simp
    · rw [vb_ge (by omega)]
      have e : (UInt8.ofNat (m % 128 + 128)).toNat = m % 128 + 128 := u8_ofNat _ (by omega)
      show gr i a (UInt8.ofNat (m % 128 + 128) :: (vb (m / 128) ++ tail)) = _
      have hi8 : i ≤ 8 := by
        rcases Nat.lt_or_ge i 9 with h | h
        · omega
        · have : i = 9 := by omega
          subst this
          have h3 : 3 * 128 ^ 9 ≤ (m + 1) * 128 ^ 9 := Nat.mul_le_mul_right _ (by omega)
          unfold top at ht; omega
      rw [gr_on (by rw [e]; omega) (by rw [e]; omega), e]
      have hp : (m / 128 + 1) * 128 ^ (i + 1) ≤ top := by
        by_cases h8 : i = 8
        · subst h8
          have h4 : (m + 1) * 128 ^ 8 ≤ top := ht
          have h5 : m + 1 ≤ 256 := by
            rcases Nat.lt_or_ge 256 (m + 1) with h | h
            · have h6 : 257 * 128 ^ 8 ≤ (m + 1) * 128 ^ 8 := Nat.mul_le_mul_right _ (by omega)
              unfold top at h4; omega
            · exact h
          have h7 : m / 128 + 1 ≤ 2 := by omega
          have h8 : (m / 128 + 1) * 128 ^ 9 ≤ 2 * 128 ^ 9 := Nat.mul_le_mul_right _ h7
          unfold top; omega
        · -- 128^(9) divides top: so does the power
          obtain ⟨d, hd⟩ : ∃ d, 9 = i + 1 + d := ⟨9 - (i + 1), by omega⟩
          have htop : top = 2 * 128 ^ d * 128 ^ (i + 1) := by
            have : (128 : Nat) ^ 9 = 128 ^ (i + 1) * 128 ^ d := by rw [hd, Nat.pow_add]
            have h9 : top = 2 * 128 ^ 9 := by unfold top; omega
            rw [h9, this, Nat.mul_assoc, Nat.mul_comm (128 ^ d)]
          have hm1 : m + 1 ≤ 2 * 128 ^ d * 128 := by
            rw [htop, Nat.pow_succ, ← Nat.mul_assoc, Nat.mul_right_comm] at ht
            exact Nat.le_of_mul_le_mul_right ht (Nat.pow_pos (by omega))
          rw [htop]
          exact Nat.mul_le_mul_right _ (by omega)
      rw [ih (m / 128) (by omega) (i + 1) _ (by omega) (.inr (by omega)) hp]
      have e3 : m = m % 128 + 128 * (m / 128) := by omega
      have e4 : a + (m % 128 + 128) % 128 * 128 ^ i + m / 128 * 128 ^ (i + 1) = a + m * 128 ^ i := by
        have e5 : (m % 128 + 128) % 128 = m % 128 := by omega
        rw [e5, Nat.pow_succ]
        have e6 : m / 128 * (128 ^ i * 128) = 128 * (m / 128) * 128 ^ i := by rw [Nat.mul_comm (128 ^ i), ← Nat.mul_assoc, Nat.mul_comm 128]
        rw [e6, Nat.add_assoc, ← Nat.add_mul]
        exact congrArg (fun z => a + z * 128 ^ i) e3.symm
      rw [e4]
      simp; omega

theorem gr_laid0 (tail : List UInt8) (n : Nat) (h : n < top) : gr 0 0 (vb n ++ tail) = (n, (vb n).length, 0) := by
  rw [gr_laid tail n 0 0 (by omega) (.inl rfl) (by simp; omega)]
  simp

/-- Cut off within, it is too short. -/
theorem gr_cut : ∀ (m i a j : Nat), i ≤ 9 → (i = 0 ∨ m ≠ 0) → (vb m).length + i ≤ 10 → j < (vb m).length → gr i a ((vb m).take j) = (0, 0, 2) := by
  intro m
  induction m using Nat.strongRecOn with
  | ind m ih =>
    intro i a j hi hm hl hj
    cases j with
    | zero => rw [List.take_zero, gr]
    | succ j =>
      by_cases h1 : m < 128
      · rw [vb_lt h1] at hj; simp at hj
      · rw [vb_ge (by omega)] at hj hl ⊢
        have e : (UInt8.ofNat (m % 128 + 128)).toNat = m % 128 + 128 := u8_ofNat _ (by omega)
        simp only [List.length_cons] at hj hl
        have := vb_pos (m / 128)
        rw [List.take_succ_cons, gr_on (by rw [e]; omega) (by rw [e]; omega)]
        exact ih (m / 128) (by omega) (i + 1) _ j (by omega) (.inr (by omega)) (by omega) (by omega)

theorem gr_cut0 (n j : Nat) (h : n < top) (hj : j < (vb n).length) : gr 0 0 ((vb n).take j) = (0, 0, 2) :=
  gr_cut n 0 0 j (by omega) (.inl rfl) (by have := vb_len n h; omega) hj

end Go.Proofs.Ytfdncdejjlcgpaa
