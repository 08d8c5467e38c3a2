/- The mathematics of words. -/
import Derived.Test.YthpnfdnhaphfgaaDoorS
import Derived.Test.YthpnfdnhaphfgaaDoorDh
namespace Go.Proofs.YthpnfdnhaphfgaaDoor

/-- Does a byte stand for itself? -/
def okb (b : UInt8) : Bool := decide (33 ≤ b.toNat ∧ b.toNat ≤ 126 ∧ b.toNat ≠ 92)

/-- The signs of a byte. -/
def sgn (all : Bool) (b : UInt8) : List UInt8 := if all = false ∧ okb b = true then [b] else [92, dig (b.toNat / 16), dig (b.toNat % 16)]

/-- A text's word. -/
def eput (s : List UInt8) : List UInt8 := if s = [] then [45] else s.flatMap (sgn (decide (s = [45])))

/-- What the first signs stand for, and how many these are. -/
def ahd (c : UInt8) (l : List UInt8) : UInt8 × Nat :=
  match l with
  | a :: b :: _ => if c = 92 then (match hval a, hval b with | some h, some k => (UInt8.ofNat (16 * h + k), 3) | _, _ => (c, 1)) else (c, 1)
  | _ => (c, 1)

theorem ahd_two (c : UInt8) (l : List UInt8) : (ahd c l).2 = 1 ∨ ((ahd c l).2 = 3 ∧ 2 ≤ l.length) := by
  unfold ahd
  split
  · split
    · split
      · right; simp
      · left; rfl
    · left; rfl
  · left; rfl

/-- What is read of signs. -/
def erd : Nat → List UInt8 → List UInt8
  | 0, _ => []
  | _ + 1, [] => []
  | f + 1, c :: l => (ahd c l).1 :: erd f ((c :: l).drop (ahd c l).2)

def eread (w : List UInt8) : List UInt8 := if w = [45] then [] else erd w.length w

theorem erd_more : ∀ (f g : Nat) (w : List UInt8), w.length ≤ f → f ≤ g → erd g w = erd f w := by
  intro f
  induction f with
  | zero =>
    intro g w h1 _
    have : w = [] := List.eq_nil_of_length_eq_zero (by omega)
    subst this
    cases g <;> rfl
  | succ f ih =>
    intro g w h1 h2
    cases g with
    | zero => omega
    | succ g =>
      cases w with
      | nil => rfl
      | cons c l =>
        have h3 : ((c :: l).drop (ahd c l).2).length ≤ f := by
          have := ahd_two c l
          simp only [List.length_drop, List.length_cons] at *
          omega
        show _ :: _ = _ :: _
        rw [ih g _ h3 (by omega)]

/-- What is read behind a place. -/
def rest (w : List UInt8) : List UInt8 := erd w.length w
theorem rest_nil : rest [] = [] := rfl
theorem rest_cons (c : UInt8) (l : List UInt8) : rest (c :: l) = (ahd c l).1 :: rest ((c :: l).drop (ahd c l).2) := by
  unfold rest
  show (ahd c l).1 :: erd l.length ((c :: l).drop (ahd c l).2) = _
  have := ahd_two c l
  rw [erd_more ((c :: l).drop (ahd c l).2).length l.length _ (Nat.le_refl _) (by simp only [List.length_drop, List.length_cons]; omega)]

theorem sgn_self {b : UInt8} (h : okb b = true) : sgn false b = [b] := by simp [sgn, h]
theorem sgn_three {a : Bool} {b : UInt8} (h : ¬ (a = false ∧ okb b = true)) : sgn a b = [92, dig (b.toNat / 16), dig (b.toNat % 16)] := by rw [sgn, if_neg h]

theorem ahd_three (b : UInt8) (l : List UInt8) : ahd 92 (dig (b.toNat / 16) :: dig (b.toNat % 16) :: l) = (b, 3) := by
  have h1 : hval (dig (b.toNat / 16)) = some (b.toNat / 16) := hval_dig ⟨b.toNat / 16, by have := b.toNat_lt; omega⟩
  have h2 : hval (dig (b.toNat % 16)) = some (b.toNat % 16) := hval_dig ⟨b.toNat % 16, by omega⟩
  have h3 : UInt8.ofNat (16 * (b.toNat / 16) + b.toNat % 16) = b := by
    rw [show 16 * (b.toNat / 16) + b.toNat % 16 = b.toNat by omega]; simp
  simp only [ahd, h1, h2, if_true, h3]

theorem ahd_self {b : UInt8} (h : okb b = true) (l : List UInt8) : ahd b l = (b, 1) := by
  have h1 : b ≠ 92 := by
    rintro rfl
    simp [okb] at h
  unfold ahd
  split
  · rw [if_neg h1]
  · rfl

theorem rest_sgn (a : Bool) (b : UInt8) (l : List UInt8) : rest (sgn a b ++ l) = b :: rest l := by
  by_cases h : a = false ∧ okb b = true
  · rw [h.1, sgn_self h.2]
    show rest (b :: l) = _
    rw [rest_cons, ahd_self h.2]; rfl
  · rw [sgn_three h]
    show rest (92 :: dig (b.toNat / 16) :: dig (b.toNat % 16) :: l) = _
    rw [rest_cons, ahd_three]; rfl

theorem rest_flat (a : Bool) (s : List UInt8) : rest (s.flatMap (sgn a)) = s := by
  induction s with
  | nil => rfl
  | cons b s ih => rw [List.flatMap_cons, rest_sgn, ih]

theorem sgn_ne (a : Bool) (b : UInt8) : sgn a b ≠ [] := by
  by_cases h : a = false ∧ okb b = true
  · rw [h.1, sgn_self h.2]; simp
  · rw [sgn_three h]; simp

theorem flat_one {a : Bool} {s : List UInt8} {c : UInt8} (h : s.flatMap (sgn a) = [c]) : s = [c] ∧ a = false := by
  cases s with
  | nil => simp at h
  | cons b s =>
    rw [List.flatMap_cons] at h
    by_cases h1 : a = false ∧ okb b = true
    · rw [h1.1, sgn_self h1.2] at h
      have h2 : b = c ∧ s.flatMap (sgn false) = [] := by simpa using h
      cases s with
      | nil => exact ⟨by rw [h2.1], h1.1⟩
      | cons x s => exact absurd (List.flatMap_eq_nil_iff.1 h2.2 x (by simp)) (sgn_ne false x)
    · rw [sgn_three h1] at h
      simp at h

theorem eput_ne (s : List UInt8) : eput s ≠ [] := by
  unfold eput
  split
  · simp
  · cases s with
    | nil => contradiction
    | cons b s => rw [List.flatMap_cons]; intro h; exact sgn_ne _ _ (List.append_eq_nil_iff.1 h).1

theorem eput_hyphen {s : List UInt8} (h : s ≠ []) : eput s ≠ [45] := by
  unfold eput
  rw [if_neg h]
  intro h1
  have h2 := flat_one h1
  rw [h2.1] at h2
  simp at h2

theorem eread_eput (s : List UInt8) : eread (eput s) = s := by
  by_cases h : s = []
  · subst h; rfl
  · unfold eread
    rw [if_neg (eput_hyphen h)]
    unfold eput
    rw [if_neg h]
    exact rest_flat _ s

/-- What a word is read as. -/
def eget (w : List UInt8) : List UInt8 × Bool := if eput (eread w) = w then (eread w, true) else ([], false)

theorem eget_eput (s : List UInt8) : eget (eput s) = (s, true) := by
  unfold eget
  rw [eread_eput, if_pos rfl]

theorem eget_back {w s : List UInt8} (h : eget w = (s, true)) : eput s = w := by
  unfold eget at h
  split at h
  · rename_i h1
    have h2 : eread w = s := by simpa using h
    rw [← h2]; exact h1
  · simp at h

theorem erd_len : ∀ (f : Nat) (w : List UInt8), (erd f w).length ≤ w.length := by
  intro f
  induction f with
  | zero => intro w; simp [erd]
  | succ f ih =>
    intro w
    cases w with
    | nil => simp [erd]
    | cons c l =>
      have h1 := ih ((c :: l).drop (ahd c l).2)
      have h2 := ahd_two c l
      show ((ahd c l).1 :: erd f ((c :: l).drop (ahd c l).2)).length ≤ _
      simp only [List.length_cons, List.length_drop] at *
      omega
theorem eread_len (w : List UInt8) : (eread w).length ≤ w.length := by
  unfold eread
  split
  · simp
  · exact erd_len _ _

/-- No blank, no line feed. -/
theorem dig_ge (m : Fin 16) : 48 ≤ (dig m.val).toNat ∧ (dig m.val).toNat ≤ 102 := by revert m; decide
theorem sgn_mem {a : Bool} {b x : UInt8} (h : x ∈ sgn a b) : 33 ≤ x.toNat ∧ x.toNat ≤ 126 := by
  by_cases h1 : a = false ∧ okb b = true
  · rw [h1.1, sgn_self h1.2] at h
    have h2 : x = b := by simpa using h
    subst h2
    have := h1.2
    simp only [okb, decide_eq_true_eq] at this
    omega
  · rw [sgn_three h1] at h
    have h3 := dig_ge ⟨b.toNat / 16, by have := b.toNat_lt; omega⟩
    have h4 := dig_ge ⟨b.toNat % 16, by omega⟩
    simp only at h3 h4
    rcases (by simpa using h : x = 92 ∨ x = dig (b.toNat / 16) ∨ x = dig (b.toNat % 16)) with rfl | rfl | rfl
    · decide
    · omega
    · omega
theorem eput_mem {s : List UInt8} {x : UInt8} (h : x ∈ eput s) : 33 ≤ x.toNat ∧ x.toNat ≤ 126 := by
  unfold eput at h
  split at h
  · have : x = 45 := by simpa using h
    subst this
    decide
  · obtain ⟨b, _, hb⟩ := List.mem_flatMap.1 h
    exact sgn_mem hb

theorem sgn_len (a : Bool) (b : UInt8) : 1 ≤ (sgn a b).length ∧ (sgn a b).length ≤ 3 := by
  by_cases h : a = false ∧ okb b = true
  · rw [h.1, sgn_self h.2]; simp
  · rw [sgn_three h]; simp
theorem flat_len3 (a : Bool) (s : List UInt8) : (s.flatMap (sgn a)).length ≤ 3 * s.length := by
  induction s with
  | nil => simp
  | cons b s ih => have := sgn_len a b; simp only [List.flatMap_cons, List.length_append, List.length_cons]; omega
theorem eput_len (s : List UInt8) : (eput s).length ≤ 3 * s.length + 1 := by
  unfold eput
  split
  · simp
  · have := flat_len3 (decide (s = [45])) s; omega

/-- The signs of a byte at the head of a row: no others. -/
theorem sgn_apart {a : Bool} {b c : UInt8} {l m : List UInt8} (h : sgn a b ++ l = sgn a c ++ m) : b = c ∧ l = m := by
  have h1 := congrArg rest h
  rw [rest_sgn, rest_sgn] at h1
  have h2 : b = c := (List.cons.inj h1).1
  subst h2
  exact ⟨rfl, List.append_cancel_left h⟩

/-- Whether the document's Get takes no byte for itself. -/
def allw (w : List UInt8) : Bool := decide (w = [92, 50, 100])

theorem eput_all {s : List UInt8} (h : s ≠ []) : decide (s = [45]) = allw (eput s) := by
  unfold allw
  by_cases h1 : s = [45]
  · subst h1; decide
  · rw [decide_eq_false h1]
    symm
    refine decide_eq_false ?_
    intro h2
    unfold eput at h2
    rw [if_neg h, decide_eq_false h1] at h2
    have h3 := congrArg rest h2
    rw [rest_flat] at h3
    exact h1 (h3.trans (by decide))

/-- All of it was read sign by sign. -/
theorem eget_yes {w acc : List UInt8} (h45 : w ≠ [45]) (hne : acc ≠ []) (h : w = acc.flatMap (sgn (allw w))) : eget w = (acc, true) := by
  have h1 : decide (acc = [45]) = allw w := by
    by_cases h2 : allw w = true
    · have h3 : w = [92, 50, 100] := of_decide_eq_true h2
      have h4 := congrArg rest h
      rw [rest_flat] at h4
      have h5 : acc = [45] := by rw [← h4, h3]; decide
      rw [h2, h5]; decide
    · have h2' : allw w = false := by simpa using h2
      rw [h2']
      refine decide_eq_false ?_
      rintro rfl
      rw [h2'] at h
      exact h45 (h.trans (by decide))
  have h2 : eput acc = w := by
    unfold eput
    rw [if_neg hne, h1, ← h]
  rw [← h2]
  exact eget_eput acc

/-- At some place no signs stand, of whatever byte. -/
theorem eget_no {w acc l : List UInt8} (h45 : w ≠ [45]) (h : w = acc.flatMap (sgn (allw w)) ++ l) (hl : l ≠ []) (hno : ∀ c m, l ≠ sgn (allw w) c ++ m) : eget w = ([], false) := by
  unfold eget
  refine if_neg ?_
  intro h1
  obtain ⟨s, hs⟩ : ∃ s, s = eread w := ⟨_, rfl⟩
  rw [← hs] at h1
  have hne : s ≠ [] := by
    rintro rfl
    exact h45 h1.symm
  have hall := eput_all hne
  rw [h1] at hall
  have h2 : w = s.flatMap (sgn (allw w)) := by
    rw [← hall]
    unfold eput at h1
    rw [if_neg hne] at h1
    exact h1.symm
  have h3 : ∀ (acc s : List UInt8), acc.flatMap (sgn (allw w)) ++ l = s.flatMap (sgn (allw w)) → False := by
    intro acc
    induction acc with
    | nil =>
      intro s hs
      cases s with
      | nil => exact hl (by simpa using hs)
      | cons c s => exact hno c _ (by simpa using hs)
    | cons b acc ih =>
      intro s hs
      cases s with
      | nil =>
        rw [List.flatMap_cons] at hs
        have := sgn_len (allw w) b
        have h4 := congrArg List.length hs
        simp only [List.length_append, List.flatMap_nil, List.length_nil] at h4
        omega
      | cons c s =>
        rw [List.flatMap_cons, List.flatMap_cons, List.append_assoc] at hs
        exact ih s (sgn_apart hs).2
  exact h3 acc s (h.symm.trans h2)

theorem eget_nil : eget [] = ([], false) := by decide
theorem eget_hyphen : eget [45] = ([], true) := by decide

end Go.Proofs.YthpnfdnhaphfgaaDoor
