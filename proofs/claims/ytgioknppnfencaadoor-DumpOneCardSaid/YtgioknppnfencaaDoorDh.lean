/- The mathematics of digits: what 16 digits are read as, a number's digits, and that each undoes the other. -/
import Derived.Test.YtgioknppnfencaaDoorS
import Derived.Test.YtgioknppnfencaaDoorDa
import Derived.Laws.Externs
namespace Go.Proofs.YtgioknppnfencaaDoor

/-- The digits, as Go has them. -/
def hexes : List UInt8 := [48, 49, 50, 51, 52, 53, 54, 55, 56, 57, 97, 98, 99, 100, 101, 102]

/-- What a digit stands for. -/
def hval (c : UInt8) : Option Nat :=
  if 48 ≤ c.toNat ∧ c.toNat ≤ 57 then some (c.toNat - 48) else if 97 ≤ c.toNat ∧ c.toNat ≤ 102 then some (c.toNat - 87) else none

def dig (m : Nat) : UInt8 := if m < 10 then UInt8.ofNat (48 + m) else UInt8.ofNat (87 + m)

theorem hval_dig : ∀ m : Fin 16, hval (dig m.val) = some m.val := by decide
theorem hval_lt {c : UInt8} {d : Nat} (h : hval c = some d) : d < 16 := by
  unfold hval at h
  split at h
  · injection h; omega
  · split at h
    · injection h; omega
    · cases h
theorem dig_hval {c : UInt8} {d : Nat} (h : hval c = some d) : dig d = c := by
  apply UInt8.toNat_inj.1
  unfold hval at h
  unfold dig
  have hc := c.toNat_lt
  split at h
  · have : d = c.toNat - 48 := by injection h; omega
    rw [if_pos (by omega), u8_ofNat _ (by omega)]; omega
  · split at h
    · have : d = c.toNat - 87 := by injection h; omega
      rw [if_neg (by omega), u8_ofNat _ (by omega)]; omega
    · cases h

/-- What a row of digits is read as, behind a number. -/
def rd (acc : Nat) : List UInt8 → Option Nat
  | [] => some acc
  | c :: l => match hval c with
    | none => none
    | some d => rd (16 * acc + d) l

theorem rd_bad {acc : Nat} {c : UInt8} {l : List UInt8} (h : hval c = none) : rd acc (c :: l) = none := by rw [rd, h]
theorem rd_on {acc d : Nat} {c : UInt8} {l : List UInt8} (h : hval c = some d) : rd acc (c :: l) = rd (16 * acc + d) l := by rw [rd, h]

/-- The lowest k digits of a number, the highest first. -/
def hexl (h : Nat) : Nat → List UInt8
  | 0 => []
  | k + 1 => dig (h / 16 ^ k % 16) :: hexl h k

theorem hexl_len (h k : Nat) : (hexl h k).length = k := by
  induction k with
  | zero => rfl
  | succ k ih => simp [hexl, ih]

theorem rd_hexl (h : Nat) : ∀ (k acc : Nat), rd acc (hexl h k) = some (acc * 16 ^ k + h % 16 ^ k) := by
  intro k
  induction k with
  | zero => intro acc; simp [hexl, rd, Nat.mod_one]
  | succ k ih =>
    intro acc
    have hd : hval (dig (h / 16 ^ k % 16)) = some (h / 16 ^ k % 16) := hval_dig ⟨h / 16 ^ k % 16, Nat.mod_lt _ (by omega)⟩
    rw [hexl, rd_on hd, ih]
    have h1 : h % 16 ^ (k + 1) = h % 16 ^ k + 16 ^ k * (h / 16 ^ k % 16) := by rw [Nat.pow_succ, Nat.mod_mul]
    rw [h1, Nat.pow_succ]
    generalize h / 16 ^ k % 16 = q
    generalize h % 16 ^ k = r
    generalize 16 ^ k = P
    have e1 : (16 * acc + q) * P = acc * (P * 16) + P * q := by
      rw [Nat.add_mul, Nat.mul_comm q P, Nat.mul_comm 16 acc, Nat.mul_assoc, Nat.mul_comm 16 P]
    congr 1
    omega

theorem hexl_rd : ∀ (s : List UInt8) (acc n : Nat), rd acc s = some n → hexl n s.length = s ∧ n / 16 ^ s.length = acc := by
  intro s
  induction s with
  | nil =>
    intro acc n h
    have : acc = n := by simpa [rd] using h
    exact ⟨rfl, by simp [this]⟩
  | cons c l ih =>
    intro acc n h
    cases hc : hval c with
    | none => rw [rd_bad hc] at h; cases h
    | some d =>
      rw [rd_on hc] at h
      obtain ⟨h1, h2⟩ := ih _ _ h
      have hd := hval_lt hc
      refine ⟨?_, ?_⟩
      · rw [List.length_cons, hexl, h1, h2, show (16 * acc + d) % 16 = d by omega, dig_hval hc]
      · rw [List.length_cons, Nat.pow_succ, ← Nat.div_div_eq_div_mul, h2]
        omega

theorem rd_lt (s : List UInt8) (n : Nat) (hs : s.length = 16) (h : rd 0 s = some n) : n < 18446744073709551616 := by
  have h2 := (hexl_rd s 0 n h).2
  rw [hs] at h2
  have := Nat.lt_of_div_eq_zero (show 0 < 16 ^ 16 by decide) h2
  exact this

/-- What Read answers. -/
def rof : Option Nat → Nat × Bool
  | some n => (n, true)
  | none => (0, false)
def rans (s : List UInt8) : Nat × Bool := if s.length = 16 then rof (rd 0 s) else (0, false)

theorem rans_hexl (h : Q64) : rans (hexl h.toNat 16) = (h.toNat, true) := by
  have hlt : h.toNat < 16 ^ 16 := h.isLt
  have e := rd_hexl h.toNat 16 0
  rw [Nat.zero_mul, Nat.zero_add, Nat.mod_eq_of_lt hlt] at e
  rw [rans, if_pos (hexl_len _ _), e]
  rfl

theorem rans_back {s : List UInt8} {n : Nat} (h : rans s = (n, true)) : hexl n 16 = s ∧ n < 18446744073709551616 := by
  unfold rans at h
  split at h
  · rename_i hs
    cases hm : rd 0 s with
    | none =>
      rw [hm] at h
      injection h with _ h
      cases h
    | some m =>
      rw [hm] at h
      injection h with h1 _
      subst h1
      have := (hexl_rd s 0 m hm).1
      rw [hs] at this
      exact ⟨this, rd_lt s m hs hm⟩
  · injection h with _ h; cases h

theorem or_u64 (h d : Nat) (hd : d < 16) (hh : 16 * h + 16 ≤ 18446744073709551616) : bits .or .u64 ((h : Int) * 16) (d : Int) = ((16 * h + d : Nat) : Int) := by
  have e : ((h : Int) * 16) = ((16 * h : Nat) : Int) := by omega
  have h2 : 16 * h ||| d = 16 * h + d := by
    have := Nat.two_pow_add_eq_or_of_lt (i := 4) (b := d) (by omega) h
    simpa using this.symm
  rw [e, u64_or_nat (16 * h) d (by omega) (by omega), h2]

/-- What strings.IndexByte says of the digits. -/
theorem first_hex : ∀ c : Fin 256, firstIdx (tx hexes) (UInt8.ofNat c.val) = (match hval (UInt8.ofNat c.val) with | some d => (d : Int) | none => -1) := by decide +kernel

end Go.Proofs.YtgioknppnfencaaDoor
