/- The plain mathematics of a number's bytes, seven bits a byte: no program is named here. -/
namespace Go.Proofs.Ytfgonihpakcbbaa

/-- Above all numbers of 64 bits. -/
def top : Nat := 18446744073709551616

/-- A number's bytes, seven bits each, the lowest first. -/
def vb (n : Nat) : List UInt8 := if n < 128 then [UInt8.ofNat n] else UInt8.ofNat (n % 128 + 128) :: vb (n / 128)
termination_by n
decreasing_by omega

theorem vb_lt {n : Nat} (h : n < 128) : vb n = [UInt8.ofNat n] := by rw [vb, if_pos h]
theorem vb_ge {n : Nat} (h : 128 ≤ n) : vb n = UInt8.ofNat (n % 128 + 128) :: vb (n / 128) := by rw [vb, if_neg (by omega)]

theorem vb_pos (n : Nat) : 0 < (vb n).length := by
  by_cases h : n < 128
  · rw [vb_lt h]; simp
  · rw [vb_ge (by omega)]; simp

theorem vb_ne (n : Nat) : vb n ≠ [] := fun e => by have := vb_pos n; rw [e] at this; simp at this

theorem vb_len_pow : ∀ (k n : Nat), n < 128 ^ (k + 1) → (vb n).length ≤ k + 1
  | 0, n, h => by rw [vb_lt (by simpa using h)]; simp
  | k + 1, n, h => by
    by_cases h1 : n < 128
    · rw [vb_lt h1]; simp
    · rw [vb_ge (by omega)]
      have : n / 128 < 128 ^ (k + 1) := by
        rw [Nat.pow_succ] at h
        exact Nat.div_lt_of_lt_mul (by rw [Nat.mul_comm]; exact h)
      have := vb_len_pow k (n / 128) this
      simp; omega

theorem vb_len (n : Nat) (h : n < top) : (vb n).length ≤ 10 :=
  vb_len_pow 9 n (by unfold top at h; have : (128 : Nat) ^ (9 + 1) = 1180591620717411303424 := by decide
                     omega)

theorem vb_mono : ∀ (n m : Nat), n ≤ m → (vb n).length ≤ (vb m).length := by
  intro n
  induction n using Nat.strongRecOn with
  | ind n ih =>
    intro m h
    by_cases h1 : n < 128
    · rw [vb_lt h1]; exact vb_pos m
    · rw [vb_ge (by omega : 128 ≤ n), vb_ge (by omega : 128 ≤ m)]
      have := ih (n / 128) (by omega) (m / 128) (by omega)
      simpa using this

/-- The number that bytes stand for. -/
def bval : List UInt8 → Nat
  | [] => 0
  | c :: l => c.toNat % 128 + 128 * bval l

theorem u8_ofNat' (n : Nat) (h : n < 256) : (UInt8.ofNat n).toNat = n := by
  simp; omega

theorem bval_vb (n : Nat) : bval (vb n) = n := by
  induction n using Nat.strongRecOn with
  | ind n ih =>
    by_cases h1 : n < 128
    · rw [vb_lt h1, bval, bval, u8_ofNat' n (by omega)]; omega
    · rw [vb_ge (by omega), bval, ih (n / 128) (by omega), u8_ofNat' _ (by omega)]; omega

theorem vb_inj {n m : Nat} (h : vb n = vb m) : n = m := by rw [← bval_vb n, h, bval_vb]

/-- Each byte but the last goes on. -/
theorem vb_goes (n : Nat) : ∀ (i : Nat) (c : UInt8), (vb n)[i]? = some c → (128 ≤ c.toNat ↔ i + 1 < (vb n).length) := by
  induction n using Nat.strongRecOn with
  | ind n ih =>
    intro i c h
    by_cases h1 : n < 128
    · rw [vb_lt h1] at h ⊢
      cases i with
      | zero =>
        have hc : UInt8.ofNat n = c := by simpa using h
        subst hc
        rw [u8_ofNat' n (by omega)]; simp; omega
      | succ i => simp at h
    · rw [vb_ge (by omega)] at h ⊢
      cases i with
      | zero =>
        have hc : UInt8.ofNat (n % 128 + 128) = c := by simpa using h
        subst hc
        have := vb_pos (n / 128)
        rw [u8_ofNat' _ (by omega)]; simp; omega
      | succ i =>
        have := ih (n / 128) (by omega) i c (by simpa using h)
        rw [this]; simp

theorem u8_ofNat (n : Nat) (h : n < 256) : (UInt8.ofNat n).toNat = n := by
  simp; omega

theorem u8_cont (n : Nat) : (UInt8.ofNat (n % 128 + 128)).toNat = n % 128 + 128 := u8_ofNat _ (by omega)

/-- What is read, byte by byte, behind i bytes that have made acc: the number, how many bytes, the error. -/
def gr (i acc : Nat) : List UInt8 → Nat × Nat × Nat
  | [] => (0, 0, 2)
  | c :: l =>
    if ¬ (i = 9 ∧ 1 < c.toNat) ∧ (i = 0 ∨ c.toNat ≠ 0) then
      if c.toNat < 128 then (acc + c.toNat * 128 ^ i, i + 1, 0) else gr (i + 1) (acc + c.toNat % 128 * 128 ^ i) l
    else (0, 0, 3)

theorem gr_bad {i acc : Nat} {c : UInt8} {l : List UInt8} (h : ¬ (¬ (i = 9 ∧ 1 < c.toNat) ∧ (i = 0 ∨ c.toNat ≠ 0))) : gr i acc (c :: l) = (0, 0, 3) := by rw [gr, if_neg h]
theorem gr_last {i acc : Nat} {c : UInt8} {l : List UInt8} (h : ¬ (i = 9 ∧ 1 < c.toNat) ∧ (i = 0 ∨ c.toNat ≠ 0)) (h1 : c.toNat < 128) : gr i acc (c :: l) = (acc + c.toNat * 128 ^ i, i + 1, 0) := by rw [gr, if_pos h, if_pos h1]
theorem gr_on {i acc : Nat} {c : UInt8} {l : List UInt8} (h : ¬ (i = 9 ∧ 1 < c.toNat) ∧ (i = 0 ∨ c.toNat ≠ 0)) (h1 : ¬ c.toNat < 128) : gr i acc (c :: l) = gr (i + 1) (acc + c.toNat % 128 * 128 ^ i) l := by rw [gr, if_pos h, if_neg h1]

end Go.Proofs.Ytfgonihpakcbbaa
