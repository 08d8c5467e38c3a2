/- Mathematics of the sum: a bit's step, a half byte's, a byte's; it is linear and one to one; what a turned bit does to the sum. -/
import Derived.Below
namespace Go.Proofs.YtgioknppnfencaaDoor

abbrev W32 := BitVec 32

/-- The number that a sum is made one with. -/
def poly : W32 := 0xedb88320#32

/-- One bit's step. -/
def st (s : W32) : W32 := if s.getLsbD 0 then (s >>> 1) ^^^ poly else s >>> 1

/-- Some steps. -/
def stn : Nat → W32 → W32
  | 0, s => s
  | k + 1, s => stn k (st s)

theorem stn_add (a b : Nat) (s : W32) : stn (a + b) s = stn b (stn a s) := by
  induction a generalizing s with
  | zero => simp [stn]
  | succ a ih => rw [Nat.succ_add]; exact ih (st s)

theorem st_xor (a b : W32) : st (a ^^^ b) = st a ^^^ st b := by
  unfold st
  rw [BitVec.getLsbD_xor, BitVec.ushiftRight_xor_distrib]
  cases a.getLsbD 0 <;> cases b.getLsbD 0 <;> simp
  · ac_rfl
  · ac_rfl
  · have : (a >>> 1 ^^^ poly ^^^ (b >>> 1 ^^^ poly)) = a >>> 1 ^^^ b >>> 1 ^^^ (poly ^^^ poly) := by ac_rfl
    rw [this]; simp

theorem stn_xor (k : Nat) (a b : W32) : stn k (a ^^^ b) = stn k a ^^^ stn k b := by
  induction k generalizing a b with
  | zero => rfl
  | succ k ih => rw [stn, st_xor, ih]; rfl

theorem stn_zero (k : Nat) : stn k 0#32 = 0#32 := by
  induction k with
  | zero => rfl
  | succ k ih => rw [stn, show st 0#32 = 0#32 by decide, ih]

theorem st_eq_zero (a : W32) (h : st a = 0#32) : a = 0#32 := by
  unfold st at h
  by_cases h0 : a.getLsbD 0 = true
  · rw [if_pos h0] at h
    have h1 := congrArg (fun x : W32 => x.getLsbD 31) h
    have h2 : poly.getLsbD 31 = true := by decide
    simp only [BitVec.getLsbD_xor, BitVec.getLsbD_ushiftRight, h2, BitVec.getLsbD_zero] at h1
    rw [BitVec.getLsbD_of_ge a (1 + 31) (by omega)] at h1
    cases h1
  · rw [if_neg h0] at h
    apply BitVec.eq_of_getLsbD_eq
    intro i hi
    cases i with
    | zero => simpa using h0
    | succ i =>
      have h1 := congrArg (fun x : W32 => x.getLsbD i) h
      simpa [BitVec.getLsbD_ushiftRight, Nat.add_comm] using h1

theorem stn_eq_zero (k : Nat) (a : W32) (h : stn k a = 0#32) : a = 0#32 := by
  induction k generalizing a with
  | zero => exact h
  | succ k ih => exact st_eq_zero a (ih _ h)

theorem xor_eq_zero (a b : W32) : a ^^^ b = 0#32 ↔ a = b := by
  constructor
  · intro h
    have : a ^^^ b ^^^ b = b := by rw [h]; simp
    simpa [BitVec.xor_assoc] using this
  · rintro rfl; simp

theorem stn_inj (k : Nat) (a b : W32) (h : stn k a = stn k b) : a = b := by
  rw [← xor_eq_zero] at h ⊢
  rw [← stn_xor] at h
  exact stn_eq_zero k _ h

/-- Steps behind a shift up undo it, where nothing has left. -/
theorem stn_shl (k : Nat) (a : W32) (hk : k ≤ 32) (h : a.toNat < 2 ^ (32 - k)) : stn k (a <<< k) = a := by
  induction k with
  | zero => simp [stn]
  | succ k ih =>
    have e : a <<< (k + 1) = (a <<< k) <<< 1 := BitVec.shiftLeft_add a k 1
    have hb : (a <<< k).getLsbD 31 = false := by
      rw [BitVec.getLsbD_shiftLeft]
      have : a.getLsbD (31 - k) = false := by
        rw [BitVec.getLsbD, Nat.testBit_lt_two_pow]
        exact Nat.lt_of_lt_of_le h (Nat.pow_le_pow_right (by omega) (by omega))
      simp [this]
    have e2 : st ((a <<< k) <<< 1) = a <<< k := by
      unfold st
      have h0 : ((a <<< k) <<< 1).getLsbD 0 = false := by rw [BitVec.getLsbD_shiftLeft]; simp
      rw [if_neg (by rw [h0]; decide)]
      generalize a <<< k = b at hb
      apply BitVec.eq_of_getLsbD_eq
      intro i hi
      rw [BitVec.getLsbD_ushiftRight, BitVec.getLsbD_shiftLeft]
      by_cases h31 : i = 31
      · subst h31; rw [hb]; rfl
      · have : 1 + i < 32 := by omega
        simp [this, show 1 + i - 1 = i by omega]
    rw [e, stn, e2]
    exact ih (by omega) (Nat.lt_of_lt_of_le h (Nat.pow_le_pow_right (by omega) (by omega)))

/-- A byte as a word. -/
def x32 (x : UInt8) : W32 := BitVec.ofNat 32 x.toNat
theorem x32_toNat (x : UInt8) : (x32 x).toNat = x.toNat := by
  simp [x32]

/-- A byte's step, and that of some. -/
def up (s : W32) (x : UInt8) : W32 := stn 8 (s ^^^ x32 x)
def ups (s : W32) (bs : List UInt8) : W32 := bs.foldl up s
def ones : W32 := 0xffffffff#32
/-- The sum of bytes. -/
def crc (bs : List UInt8) : W32 := ~~~ (ups ones bs)

theorem ups_append (s : W32) (a b : List UInt8) : ups s (a ++ b) = ups (ups s a) b := by simp [ups]

/-- The half bytes' table. -/
def tab : List Nat := [0, 498536548, 997073096, 651767980, 1994146192, 1802195444, 1303535960, 1342533948, 3988292384, 4027552580, 3604390888, 3412177804, 2607071920, 2262029012, 2685067896, 3183342108]
def tabN (i : Nat) : Nat := tab.getD i 0
/-- A half byte's step, by the table. -/
def half (s : W32) : W32 := (s >>> 4) ^^^ BitVec.ofNat 32 (tabN (s.toNat % 16))

theorem tab_ok : ∀ j : Fin 16, stn 4 (BitVec.ofNat 32 j.val) = BitVec.ofNat 32 (tabN j.val) := by decide +kernel

theorem half_eq (s : W32) : half s = stn 4 s := by
  have hj : s.toNat % 16 < 16 := Nat.mod_lt _ (by omega)
  have e : s = ((s >>> 4) <<< 4) ^^^ BitVec.ofNat 32 (s.toNat % 16) := by
    apply BitVec.eq_of_getLsbD_eq
    intro i hi
    rw [BitVec.getLsbD_xor, BitVec.getLsbD_shiftLeft, BitVec.getLsbD_ushiftRight, BitVec.getLsbD_ofNat]
    have : (s.toNat % 16).testBit i = (decide (i < 4) && s.getLsbD i) := by
      rw [show (16 : Nat) = 2 ^ 4 by rfl, Nat.testBit_mod_two_pow]; rfl
    rw [this]
    by_cases h4 : i < 4
    · simp [hi, h4]
    · simp [hi, h4, show 4 + (i - 4) = i by omega]
  have e2 : stn 4 ((s >>> 4) <<< 4) = s >>> 4 := stn_shl 4 _ (by omega) (by
    rw [BitVec.toNat_ushiftRight, Nat.shiftRight_eq_div_pow]
    have := s.isLt
    omega)
  have e3 := tab_ok ⟨s.toNat % 16, hj⟩
  unfold half
  conv => rhs; rw [e, stn_xor, e2]
  rw [← e3]

theorem up_halves (s : W32) (x : UInt8) : half (half (s ^^^ x32 x)) = up s x := by
  rw [half_eq, half_eq, ← stn_add]; rfl

/-- What is made one with the sum goes its own way through the bytes behind. -/
theorem ups_xor (s d : W32) (q : List UInt8) : ups (s ^^^ d) q = ups s q ^^^ stn (8 * q.length) d := by
  induction q generalizing s d with
  | nil => simp [ups, stn]
  | cons x q ih =>
    have e : up (s ^^^ d) x = up s x ^^^ stn 8 d := by
      unfold up
      rw [← stn_xor]
      congr 1
      ac_rfl
    show ups (up (s ^^^ d) x) q = ups (up s x) q ^^^ _
    rw [e, ih, ← stn_add, List.length_cons]
    congr 2
    omega

theorem stn_one (i : Nat) (hi : i < 32) : stn i (1#32 <<< i) = 1#32 := stn_shl i 1#32 (by omega) (by
  have : 2 ^ 1 ≤ 2 ^ (32 - i) := Nat.pow_le_pow_right (by omega) (by omega)
  exact Nat.lt_of_lt_of_le (by decide) this)

/-- A bit is turned: what the sum's steps then come to. -/
theorem ups_turn (s : W32) (bs : List UInt8) (j i : Nat) (y : UInt8) (hj : j < bs.length) (hi : i < 8) (hy : x32 y = x32 bs[j] ^^^ (1#32 <<< i)) :
    ups s (bs.set j y) = ups s bs ^^^ stn (8 * bs.length - (8 * j + i)) 1#32 := by
  have hs : bs = bs.take j ++ bs[j] :: bs.drop (j + 1) := by simp
  have ht : bs.set j y = bs.take j ++ y :: bs.drop (j + 1) := by rw [List.set_eq_take_append_cons_drop, if_pos hj]
  rw [ht, ups_append]
  conv => rhs; arg 1; rw [hs, ups_append]
  show ups (up _ y) _ = ups (up _ bs[j]) _ ^^^ _
  have e : ∀ r, up r y = up r bs[j] ^^^ stn (8 - i) 1#32 := by
    intro r
    unfold up
    rw [hy, ← BitVec.xor_assoc, stn_xor]
    congr 1
    have : stn 8 (1#32 <<< i) = stn (i + (8 - i)) (1#32 <<< i) := by rw [show i + (8 - i) = 8 by omega]
    rw [this, stn_add, stn_one i (by omega)]
  rw [e, ups_xor, ← stn_add]
  congr 2
  rw [List.length_drop]
  omega

/-- Four bytes as a word, the lowest first. -/
def le4 : List UInt8 → W32
  | [] => 0#32
  | x :: q => x32 x ^^^ (le4 q <<< 8)

theorem le4_lt : ∀ q : List UInt8, q.length ≤ 4 → (le4 q).toNat < 2 ^ (8 * q.length)
  | [], _ => by simp [le4]
  | x :: q, h => by
    have ih := le4_lt q (by simp at h; omega)
    simp only [List.length_cons] at h
    have hx := x32_toNat x
    have hxl := x.toNat_lt
    rw [le4, BitVec.toNat_xor, List.length_cons]
    apply Nat.xor_lt_two_pow
    · rw [hx]
      exact Nat.lt_of_lt_of_le hxl (Nat.pow_le_pow_right (n := 2) (i := 8) (by omega) (by omega))
    · rw [BitVec.toNat_shiftLeft, Nat.shiftLeft_eq]
      refine Nat.lt_of_le_of_lt (Nat.mod_le _ _) ?_
      rw [show 8 * (q.length + 1) = 8 * q.length + 8 by omega, Nat.pow_add]
      omega

/-- Up to four bytes behind a sum: its steps over the sum made one with them. -/
theorem ups_le4 (s : W32) : ∀ q : List UInt8, q.length ≤ 4 → ups s q = stn (8 * q.length) (s ^^^ le4 q)
  | [], _ => by simp [ups, stn, le4]
  | x :: q, h => by
    simp only [List.length_cons] at h
    have ih := ups_le4 (up s x) q (by omega)
    show ups (up s x) q = _
    rw [ih, List.length_cons, show 8 * (q.length + 1) = 8 + 8 * q.length by omega, stn_add]
    congr 1
    rw [le4, ← BitVec.xor_assoc, stn_xor]
    rw [stn_shl 8 (le4 q) (by omega) (Nat.lt_of_lt_of_le (le4_lt q (by omega)) (Nat.pow_le_pow_right (by omega) (by omega)))]
    rfl

/-- Bytes with a word behind are bytes with their sum behind just where all the steps come to one number. -/
theorem sum_behind (m t : List UInt8) (ht : t.length = 4) : le4 t = crc m ↔ ups ones (m ++ t) = stn 32 ones := by
  rw [ups_append, ups_le4 _ t (by omega), ht]
  unfold crc
  generalize ups ones m = s
  have e : s ^^^ ~~~ s = ones := by
    have ho : ∀ i : Fin 32, ones.getLsbD i.val = true := by decide
    apply BitVec.eq_of_getLsbD_eq
    intro i hi
    rw [BitVec.getLsbD_xor, BitVec.getLsbD_not, ho ⟨i, hi⟩]
    simp [hi]
  constructor
  · intro h; rw [h, e]
  · intro h
    have h1 := stn_inj _ _ _ h
    have h2 : s ^^^ (s ^^^ le4 t) = s ^^^ ones := by rw [h1]
    rw [← BitVec.xor_assoc] at h2
    rw [← e] at h2
    simpa [← BitVec.xor_assoc] using h2

/-- Three rows of as many bytes. -/
def xor3 : List UInt8 → List UInt8 → List UInt8 → List UInt8
  | a :: as, b :: bs, c :: cs => (a ^^^ b ^^^ c) :: xor3 as bs cs
  | _, _, _ => []

theorem x32_xor (a b : UInt8) : x32 (a ^^^ b) = x32 a ^^^ x32 b := by
  apply BitVec.eq_of_toNat_eq
  rw [BitVec.toNat_xor, x32_toNat, x32_toNat, x32_toNat, UInt8.toNat_xor]

theorem ups_line : ∀ (as bs cs : List UInt8) (s t u : W32), as.length = bs.length → as.length = cs.length → ups (s ^^^ t ^^^ u) (xor3 as bs cs) = ups s as ^^^ ups t bs ^^^ ups u cs
  | [], [], [], s, t, u, _, _ => rfl
  | a :: as, b :: bs, c :: cs, s, t, u, h1, h2 => by
    show ups (up (s ^^^ t ^^^ u) (a ^^^ b ^^^ c)) (xor3 as bs cs) = ups (up s a) as ^^^ ups (up t b) bs ^^^ ups (up u c) cs
    rw [← ups_line as bs cs _ _ _ (by simpa using h1) (by simpa using h2)]
    congr 1
    unfold up
    rw [x32_xor, x32_xor, ← stn_xor, ← stn_xor]
    congr 1
    ac_rfl
  | [], _ :: _, _, _, _, _, h1, _ => by simp at h1
  | [], [], _ :: _, _, _, _, _, h2 => by simp at h2
  | _ :: _, [], _, _, _, _, h1, _ => by simp at h1
  | _ :: _, _ :: _, [], _, _, _, _, h2 => by simp at h2

theorem crc_line (as bs cs : List UInt8) (h1 : as.length = bs.length) (h2 : as.length = cs.length) : crc (xor3 as bs cs) = crc as ^^^ crc bs ^^^ crc cs := by
  have h := ups_line as bs cs ones ones ones h1 h2
  have e : ones ^^^ ones ^^^ ones = ones := by decide
  rw [e] at h
  unfold crc
  rw [h]
  apply BitVec.eq_of_getLsbD_eq
  intro i hi
  simp [hi]

/-- One bit within the window is turned. -/
theorem told_turn (s : W32) (c : List UInt8) (first k : Nat) (y : UInt8) (hk : k < 32) (hat : first + k < 8 * c.length) (hj : (first + k) / 8 < c.length) (hy : x32 y = x32 c[(first + k) / 8] ^^^ (1#32 <<< ((first + k) % 8))) :
    ups s (c.set ((first + k) / 8) y) = ups s c ^^^ stn (8 * c.length - first) (1#32 <<< k) := by
  rw [ups_turn s c ((first + k) / 8) ((first + k) % 8) y hj (Nat.mod_lt _ (by omega)) hy]
  congr 1
  rw [show 8 * c.length - first = k + (8 * c.length - (first + k)) by omega, stn_add, stn_one k hk]
  congr 1
  omega

theorem mask_more (m k : Nat) (hk : k < 32) (hm : m < 2 ^ k) : BitVec.ofNat 32 (m + 2 ^ k) = BitVec.ofNat 32 m ^^^ (1#32 <<< k) := by
  apply BitVec.eq_of_getLsbD_eq
  intro i hi
  have h := Nat.testBit_two_pow_mul_add 1 hm i
  rw [Nat.mul_one] at h
  rw [BitVec.getLsbD_xor, BitVec.getLsbD_shiftLeft, BitVec.getLsbD_ofNat, BitVec.getLsbD_ofNat, Nat.add_comm, h]
  by_cases hlt : i < k
  · simp [hi, hlt]
  · have hmi : m.testBit i = false := Nat.testBit_lt_two_pow (Nat.lt_of_lt_of_le hm (Nat.pow_le_pow_right (by omega) (by omega)))
    by_cases he : i = k
    · subst he; simp [hi, hmi]
    · have h1 : Nat.testBit 1 (i - k) = false := Nat.testBit_lt_two_pow (by
        have : 2 ^ 1 ≤ 2 ^ (i - k) := Nat.pow_le_pow_right (by omega) (by omega)
        omega)
      have h2 : (1#32).getLsbD (i - k) = false := by rw [BitVec.getLsbD_ofNat]; simp [h1]
      simp [hlt, hmi, h1, h2]

/-- So many rounds of the window have been gone: the row, and which bits are turned. -/
def Turned (c0 c : List UInt8) (first k m : Nat) : Prop := c.length = c0.length ∧ m < 2 ^ k ∧ ups ones c = ups ones c0 ^^^ stn (8 * c0.length - first) (BitVec.ofNat 32 m)

theorem Turned.start (c0 : List UInt8) (first : Nat) : Turned c0 c0 first 0 0 := ⟨rfl, by omega, by rw [stn_zero]; simp⟩
theorem Turned.keep {c0 c : List UInt8} {first k m : Nat} (h : Turned c0 c first k m) : Turned c0 c first (k + 1) m := ⟨h.1, by have := h.2.1; rw [Nat.pow_succ]; omega, h.2.2⟩
theorem Turned.turn {c0 c : List UInt8} {first k m : Nat} (h : Turned c0 c first k m) (hk : k < 32) (hat : first + k < 8 * c0.length) (y : UInt8) (hj : (first + k) / 8 < c.length)
    (hy : x32 y = x32 c[(first + k) / 8] ^^^ (1#32 <<< ((first + k) % 8))) : Turned c0 (c.set ((first + k) / 8) y) first (k + 1) (m + 2 ^ k) := by
  refine ⟨by rw [List.length_set]; exact h.1, by have := h.2.1; rw [Nat.pow_succ]; omega, ?_⟩
  rw [told_turn ones c first k y hk (by rw [h.1]; exact hat) hj hy, h.2.2, mask_more m k hk h.2.1, stn_xor, h.1, BitVec.xor_assoc]

/-- **Bits within 32 in a row are turned, of bytes with their sum behind: it is told just where there is one.** -/
theorem Turned.told {c0 c m0 t0 : List UInt8} {first m n : Nat} (h : Turned c0 c first 32 m) (h0 : c0 = m0 ++ t0) (ht : t0.length = 4) (hs : le4 t0 = crc m0) (hn : m0.length = n) :
    (le4 (c.drop n) = crc (c.take n)) ↔ m = 0 := by
  have hl : c.length = n + 4 := by rw [h.1, h0, List.length_append, ht, hn]
  have h1 := sum_behind (c.take n) (c.drop n) (by rw [List.length_drop]; omega)
  rw [List.take_append_drop] at h1
  rw [h1, h.2.2]
  rw [sum_behind m0 t0 ht, ← h0] at hs
  rw [hs]
  constructor
  · intro e
    have e2 : stn (8 * c0.length - first) (BitVec.ofNat 32 m) = 0#32 := by
      have : stn 32 ones ^^^ (stn 32 ones ^^^ stn (8 * c0.length - first) (BitVec.ofNat 32 m)) = stn 32 ones ^^^ stn 32 ones := by rw [e]
      rw [← BitVec.xor_assoc] at this
      simpa using this
    have e3 := congrArg BitVec.toNat (stn_eq_zero _ _ e2)
    have hm := h.2.1
    rw [BitVec.toNat_ofNat, Nat.mod_eq_of_lt hm] at e3
    simpa using e3
  · rintro rfl
    rw [stn_zero]
    simp

end Go.Proofs.YtgioknppnfencaaDoor
