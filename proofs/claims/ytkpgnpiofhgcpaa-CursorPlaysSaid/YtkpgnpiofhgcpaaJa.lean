/- The mathematics of cursors: what is taken, and where it stands then. No program is named here. -/
import Derived.Test.YtkpgnpiofhgcpaaBa
import Derived.Test.YtkpgnpiofhgcpaaG
namespace Go.Proofs.Ytkpgnpiofhgcpaa

structure Cu where
  bs : List UInt8
  at_ : Nat
  e : Int

namespace Cu

def fail (c : Cu) (e : Int) : Cu := if c.e = 0 then { c with e := e } else c

/-- One thing is taken: r is what stands there, the place behind it, and an error's number. -/
def tk {α : Type} (zero : α) (c : Cu) (r : α × Nat × Nat) : α × Cu :=
  if c.e = 0 then (if r.2.2 = 0 then (r.1, { c with at_ := r.2.1 }) else (zero, { c with e := (r.2.2 : Int) })) else (zero, c)

def byR (c : Cu) : UInt8 × Nat × Nat := match c.bs.drop c.at_ with
  | [] => (0, 0, 2)
  | x :: _ => (x, c.at_ + 1, 0)
def nuR (c : Cu) : Nat × Nat × Nat := ((gr 0 0 (c.bs.drop c.at_)).1, gnext c.at_ (gr 0 0 (c.bs.drop c.at_)), (gr 0 0 (c.bs.drop c.at_)).2.2)
def txR (c : Cu) (most : Int) : List UInt8 × Nat × Nat := bg most c.at_ c.bs

def byte (c : Cu) : UInt8 × Cu := tk 0 c c.byR
def num (c : Cu) : Nat × Cu := tk 0 c c.nuR
def text (c : Cu) (most : Int) : List UInt8 × Cu := tk [] c (c.txR most)

def cnt (c : Cu) (most : Int) : Nat × Cu := if max most 0 < (c.num.1 : Int) then (0, c.num.2.fail 5) else (c.num.1, c.num.2)

def many {α : Type} (one : Cu → α × Cu) : Nat → Cu → List α × Cu
  | 0, c => ([], c)
  | k + 1, c => if c.e = 0 then ((one c).1 :: (many one k (one c).2).1, (many one k (one c).2).2) else ([], c)

def all {α : Type} (one : Cu → α × Cu) (c : Cu) (most : Int) : List α × Cu :=
  (if (many one (c.cnt most).1 (c.cnt most).2).2.e = 0 then (many one (c.cnt most).1 (c.cnt most).2).1 else [], (many one (c.cnt most).1 (c.cnt most).2).2)

def nums (c : Cu) (most : Int) : List Nat × Cu := all num c most
def txt (each : Int) (c : Cu) : List UInt8 × Cu := c.text each
def texts (c : Cu) (most each : Int) : List (List UInt8) × Cu := all (txt each) c most

/-- It may be: its place isn't beyond. -/
def ok (c : Cu) : Prop := c.at_ ≤ c.bs.length

/-- From one cursor another came: the same bytes, a place that isn't ahead of it and isn't beyond; and what has failed stays as it is. -/
structure To (c d : Cu) : Prop where
  bs : d.bs = c.bs
  le : c.at_ ≤ d.at_
  ok : d.at_ ≤ c.bs.length
  stay : c.e ≠ 0 → d = c

theorem To.refl {c : Cu} (h : c.ok) : To c c := ⟨rfl, Nat.le_refl _, h, fun _ => rfl⟩
theorem To.trans {a b c : Cu} (h : To a b) (k : To b c) : To a c :=
  ⟨k.bs.trans h.bs, Nat.le_trans h.le k.le, by rw [← h.bs]; exact k.ok, fun he => by
    have h1 := h.stay he
    subst h1
    exact k.stay he⟩
theorem To.good {c d : Cu} (h : To c d) : d.ok := by
  have := h.ok
  rwa [← h.bs] at this

theorem fail_to {c : Cu} (h : c.ok) (e : Int) : To c (c.fail e) := by
  unfold fail
  split
  · rename_i h0
    exact ⟨rfl, Nat.le_refl _, h, fun h1 => absurd h0 h1⟩
  · exact To.refl h

theorem tk_to {α : Type} {zero : α} {c : Cu} {r : α × Nat × Nat} (h : c.ok) (hr : r.2.2 = 0 → c.at_ ≤ r.2.1 ∧ r.2.1 ≤ c.bs.length) : To c (tk zero c r).2 := by
  unfold tk
  split
  · rename_i h0
    split
    · rename_i h1
      exact ⟨rfl, (hr h1).1, (hr h1).2, fun h2 => absurd h0 h2⟩
    · exact ⟨rfl, Nat.le_refl _, h, fun h2 => absurd h0 h2⟩
  · exact To.refl h

theorem byR_in {c : Cu} (hb : c.ok) : c.byR.2.2 = 0 → c.at_ < c.byR.2.1 ∧ c.byR.2.1 ≤ c.bs.length := by
  intro h
  unfold byR at *
  split at h
  · cases h
  · rename_i x l hx
    have := congrArg List.length hx
    simp at this
    unfold ok at hb
    exact ⟨by simp, by simp only; omega⟩
theorem nuR_in {c : Cu} (hb : c.ok) : c.nuR.2.2 = 0 → c.at_ < c.nuR.2.1 ∧ c.nuR.2.1 ≤ c.bs.length := by
  intro h
  unfold nuR at *
  simp only at *
  obtain ⟨n, k, hg⟩ : ∃ n k, gr 0 0 (c.bs.drop c.at_) = (n, k, 0) := by
    rcases gr_three (c.bs.drop c.at_) 0 0 with hg | hg | hg
    · rw [hg] at h; cases h
    · rw [hg] at h; cases h
    · exact hg
  obtain ⟨_, h1, h2, _⟩ := gr_ok0 hg
  rw [hg, gnext, if_pos rfl]
  rw [List.length_drop] at h2
  unfold ok at hb
  exact ⟨by simp only; omega, by simp only; omega⟩
theorem txR_in {c : Cu} (most : Int) : (c.txR most).2.2 = 0 → c.at_ < (c.txR most).2.1 ∧ (c.txR most).2.1 ≤ c.bs.length := by
  intro h
  unfold txR at *
  obtain ⟨s, nx, hg⟩ : ∃ s nx, bg most c.at_ c.bs = (s, nx, 0) := by
    rcases bg_five (most := most) (at_ := c.at_) (bs := c.bs) with hg | hg | hg | hg
    · rw [hg] at h; cases h
    · rw [hg] at h; cases h
    · rw [hg] at h; cases h
    · exact hg
  have := bg_one hg
  rw [hg]
  exact ⟨this.1, this.2.1⟩

theorem byte_to {c : Cu} (h : c.ok) : To c c.byte.2 := tk_to h fun h1 => ⟨Nat.le_of_lt (byR_in h h1).1, (byR_in h h1).2⟩
theorem num_to {c : Cu} (h : c.ok) : To c c.num.2 := tk_to h fun h1 => ⟨Nat.le_of_lt (nuR_in h h1).1, (nuR_in h h1).2⟩
theorem text_to {c : Cu} (h : c.ok) (most : Int) : To c (c.text most).2 := tk_to h fun h1 => ⟨Nat.le_of_lt (txR_in most h1).1, (txR_in most h1).2⟩

theorem tk_e {α : Type} {zero : α} {c : Cu} {r : α × Nat × Nat} (h : c.e ≠ 0) : tk zero c r = (zero, c) := by rw [tk, if_neg h]

/-- A step forward, if it took. -/
theorem tk_on {α : Type} {zero : α} {c : Cu} {r : α × Nat × Nat} (h0 : c.e = 0) (hr : r.2.2 = 0 → c.at_ < r.2.1) (h : (tk zero c r).2.e = 0) : c.at_ < (tk zero c r).2.at_ := by
  unfold tk at *
  rw [if_pos h0] at *
  split
  · rename_i h1
    exact hr h1
  · rename_i h1
    rw [if_neg h1] at h
    simp only at h
    omega

theorem num_lt {c : Cu} : c.num.1 < top := by
  unfold num tk
  split
  · split
    · rename_i h1
      unfold nuR at *
      simp only at *
      rcases gr_three (c.bs.drop c.at_) 0 0 with hg | hg | ⟨n, k, hg⟩
      · rw [hg]; decide
      · rw [hg]; decide
      · rw [hg]; exact (gr_ok0 hg).1
    · exact (by decide : 0 < top)
  · exact (by decide : 0 < top)

theorem num_bad {c : Cu} (h : c.num.2.e ≠ 0) : c.num.1 = 0 := by
  unfold num tk at *
  split
  · rename_i h0
    split
    · rename_i h1
      rw [if_pos h0, if_pos h1] at h
      exact absurd h0 h
    · rfl
  · rfl

theorem cnt_to {c : Cu} (h : c.ok) (most : Int) : To c (c.cnt most).2 := by
  unfold cnt
  split
  · exact (num_to h).trans (fail_to (num_to h).good 5)
  · exact num_to h

/-- One thing after the other: so many are left, from the cursor d on, behind the list l. -/
theorem many_to {α : Type} {one : Cu → α × Cu} (h1 : ∀ c : Cu, c.ok → To c (one c).2) : ∀ (k : Nat) (c : Cu), c.ok → To c (many one k c).2
  | 0, c, h => To.refl h
  | k + 1, c, h => by
    unfold many
    split
    · exact (h1 c h).trans (many_to h1 k _ (h1 c h).good)
    · exact To.refl h

theorem many_stop {α : Type} {one : Cu → α × Cu} {k : Nat} {c : Cu} (h : c.e ≠ 0) : many one k c = ([], c) := by
  cases k with
  | zero => rfl
  | succ k => rw [many, if_neg h]
theorem many_next {α : Type} {one : Cu → α × Cu} {k : Nat} {c : Cu} (h : c.e = 0) : many one (k + 1) c = ((one c).1 :: (many one k (one c).2).1, (many one k (one c).2).2) := by
  rw [many, if_pos h]

theorem all_to {α : Type} {one : Cu → α × Cu} (h1 : ∀ c : Cu, c.ok → To c (one c).2) {c : Cu} (h : c.ok) (most : Int) : To c (all one c most).2 :=
  (cnt_to h most).trans (many_to h1 _ _ (cnt_to h most).good)

theorem nums_to {c : Cu} (h : c.ok) (most : Int) : To c (c.nums most).2 := all_to (fun _ h => num_to h) h most
theorem texts_to {c : Cu} (h : c.ok) (most each : Int) : To c (c.texts most each).2 := all_to (fun _ h => text_to h each) h most

end Cu
end Go.Proofs.Ytkpgnpiofhgcpaa
