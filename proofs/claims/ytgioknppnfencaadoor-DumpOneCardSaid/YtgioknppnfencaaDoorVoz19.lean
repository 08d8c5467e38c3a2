/- Texts of one proof, one behind the other. -/
import Derived.Sort.KeysCollected
import Derived.Lib.Hide
import Derived.Test.YtgioknppnfencaaDoorRn0
import Derived.Test.YtgioknppnfencaaDoorRk0
import Derived.Test.YtgioknppnfencaaDoorMw
import Derived.Maps.OwnSet
import Derived.WalkKit
import Derived.BigQuiet
import Derived.Deep.QuietTactic
import Derived.RegionTactic
import Derived.Test.YtgioknppnfencaaDoorRb00
import Derived.WalkLawsBesides
import Derived.Sort.Walk0
import Derived.Test.YtgioknppnfencaaDoorRn00
import Derived.Test.YtgioknppnfencaaDoorVma19
import Derived.Test.YtgioknppnfencaaDoorRj0
import Derived.Test.YtgioknppnfencaaDoorNb
import Derived.ProofKit
import Derived.LaidMore
import Derived.MakeChecks
import Derived.OpenShut
import Derived.Test.YtgioknppnfencaaDoorRows
import Derived.Test.YtgioknppnfencaaDoorCs
import Derived.Lib.LaidTab
import Derived.Lib.ItoaNum
import Derived.Carry
import Derived.Lay
import Derived.SevenTiedAt
import Derived.Test.YtgioknppnfencaaDoorCards
import Derived.Test.YtgioknppnfencaaDoorTie
import Derived.Test.YtgioknppnfencaaDoorDm

/- The mathematics of folds: things by their texts, rising; no program. -/
namespace Go.Proofs.YtgioknppnfencaaDoor

theorem lx_tot (a b : List UInt8) : a ≤ b ∨ b ≤ a := List.le_total a b
theorem lx_asymm {a b : List UInt8} (h : a < b) : ¬ b < a := fun h2 => by
  have h3 : a ≤ b := List.le_of_lt h
  exact h3 h2
theorem lx_irr (a : List UInt8) : ¬ a < a := fun h => lx_asymm h h
theorem lx_ne {a b : List UInt8} (h : a < b) : a ≠ b := fun e => lx_irr a (by rw [← e] at h; exact h)
theorem lx_tri (a b : List UInt8) : a < b ∨ a = b ∨ b < a := by
  by_cases h1 : a < b
  · exact .inl h1
  · by_cases h2 : b < a
    · exact .inr (.inr h2)
    · exact .inr (.inl (List.le_antisymm (fun h => h2 h) (fun h => h1 h)))
theorem lx_trans {a b c : List UInt8} (h : a < b) (k : b < c) : a < c := List.lt_trans h k

section
variable {α β : Type} (k : α → Int) (t : α → List UInt8)

/-- One is put among others; 'laid': it is there already, or isn't to be. -/
def rput (x : α) : Bool → List α → List α
  | laid, [] => if laid then [] else [x]
  | laid, s :: S => (if laid = false ∧ t x < t s then [x] else []) ++ ((if t s ≠ t x then [s] else []) ++ rput x (laid || decide (t x < t s)) S)
def put1 (S : List α) (x : α) : List α := if k x = 1 then rput t x false S else if k x = 2 then rput t x true S else S
def fo (xs : List α) : List α := xs.foldl (put1 k t) []
def Up (S : List α) : Prop := S.Pairwise fun a b => t a < t b
def look (S : List α) (u : List UInt8) : Option α := S.find? fun s => t s == u

variable {k t}

theorem rput_mem {x y : α} : ∀ {S : List α} {laid : Bool}, y ∈ rput t x laid S ↔ (laid = false ∧ y = x) ∨ (y ∈ S ∧ t y ≠ t x)
  | [], laid => by cases laid <;> simp [rput]
  | s :: S, laid => by
    unfold rput
    rw [List.mem_append, List.mem_append, rput_mem (S := S)]
    by_cases h2 : t s = t x
    · have h1 : ¬ t x < t s := by rw [h2]; exact lx_irr _
      rw [if_neg (fun h => h1 h.2), if_neg (fun h => h h2), decide_eq_false h1, Bool.or_false]
      constructor
      · rintro (h | h | h | h)
        · cases h
        · cases h
        · exact .inl h
        · exact .inr ⟨List.mem_cons_of_mem _ h.1, h.2⟩
      · rintro (h | ⟨h, h3⟩)
        · exact .inr (.inr (.inl h))
        · rcases List.mem_cons.1 h with rfl | h
          · exact absurd h2 h3
          · exact .inr (.inr (.inr ⟨h, h3⟩))
    · rw [if_pos h2]
      have hs : y ∈ [s] ↔ y = s := List.mem_singleton
      constructor
      · rintro (h | h | h | h)
        · by_cases hc : laid = false ∧ t x < t s
          · rw [if_pos hc] at h
            exact .inl ⟨hc.1, List.mem_singleton.1 h⟩
          · rw [if_neg hc] at h
            cases h
        · rw [hs] at h
          subst h
          exact .inr ⟨List.mem_cons_self, h2⟩
        · exact .inl ⟨by have := h.1; rw [Bool.or_eq_false_iff] at this; exact this.1, h.2⟩
        · exact .inr ⟨List.mem_cons_of_mem _ h.1, h.2⟩
      · rintro (h | ⟨h, h3⟩)
        · by_cases h1 : t x < t s
          · rw [if_pos ⟨h.1, h1⟩]
            exact .inl (List.mem_singleton.2 h.2)
          · exact .inr (.inr (.inl ⟨by rw [h.1, decide_eq_false h1]; rfl, h.2⟩))
        · rcases List.mem_cons.1 h with rfl | h
          · exact .inr (.inl (hs.2 rfl))
          · exact .inr (.inr (.inr ⟨h, h3⟩))

theorem rput_up {x : α} : ∀ {S : List α} {laid : Bool}, Up t S → (laid = true → True) → Up t (rput t x laid S)
  | [], laid, _, _ => by cases laid <;> simp [rput, Up]
  | s :: S, laid, h, _ => by
    have h0 := List.pairwise_cons.1 h
    unfold rput
    by_cases h1 : t x < t s
    · have h2 : t s ≠ t x := fun e => lx_ne h1 e.symm
      have hs : Up t (s :: rput t x true S) := List.pairwise_cons.2 ⟨fun y hy => by
        rcases rput_mem.1 hy with ⟨h, _⟩ | ⟨h, _⟩
        · cases h
        · exact h0.1 y h, rput_up h0.2 (fun _ => trivial)⟩
      cases laid
      · simp [h1, h2]
        refine List.pairwise_cons.2 ⟨fun y hy => ?_, hs⟩
        rcases List.mem_cons.1 hy with rfl | hy
        · exact h1
        · exact lx_trans h1 ((List.pairwise_cons.1 hs).1 y hy)
      · simpa [h2] using hs
    · by_cases h2 : t s = t x
      · rw [if_neg (fun h => h1 h.2), if_neg (fun h => h h2)]
        exact rput_up h0.2 (fun _ => trivial)
      · have h3 : t s < t x := by
          rcases lx_tri (t s) (t x) with h | h | h
          · exact h
          · exact absurd h h2
          · exact absurd h h1
        rw [if_neg (fun h => h1 h.2), if_pos h2]
        refine List.pairwise_cons.2 ⟨fun y hy => ?_, rput_up h0.2 (fun _ => trivial)⟩
        rcases rput_mem.1 hy with ⟨_, rfl⟩ | ⟨h, _⟩
        · exact h3
        · exact h0.1 y h

theorem put1_up {S : List α} (h : Up t S) (x : α) : Up t (put1 k t S x) := by
  unfold put1
  split
  · exact rput_up h (fun _ => trivial)
  · split
    · exact rput_up h (fun _ => trivial)
    · exact h
theorem foldl_up : ∀ (xs S : List α), Up t S → Up t (xs.foldl (put1 k t) S)
  | [], _, h => h
  | x :: xs, _, h => foldl_up xs _ (put1_up h x)
theorem fo_up (xs : List α) : Up t (fo k t xs) := foldl_up xs [] List.Pairwise.nil

theorem put1_mem {S : List α} {x y : α} (h : y ∈ put1 k t S x) : y = x ∧ k x = 1 ∨ y ∈ S := by
  unfold put1 at h
  split at h
  · rcases rput_mem.1 h with ⟨_, h⟩ | ⟨h, _⟩
    · exact .inl ⟨h, by assumption⟩
    · exact .inr h
  · split at h
    · rcases rput_mem.1 h with ⟨h, _⟩ | ⟨h, _⟩
      · cases h
      · exact .inr h
    · exact .inr h
theorem foldl_mem : ∀ (xs S : List α) {y : α}, y ∈ xs.foldl (put1 k t) S → (y ∈ xs ∧ k y = 1) ∨ y ∈ S
  | [], _, _, h => .inr h
  | x :: xs, S, y, h => by
    rcases foldl_mem xs _ h with h | h
    · exact .inl ⟨List.mem_cons_of_mem _ h.1, h.2⟩
    · rcases put1_mem h with ⟨rfl, h2⟩ | h
      · exact .inl ⟨List.mem_cons_self, h2⟩
      · exact .inr h
theorem fo_mem {xs : List α} {y : α} (h : y ∈ fo k t xs) : y ∈ xs ∧ k y = 1 := by
  rcases foldl_mem xs [] h with h | h
  · exact h
  · cases h

theorem rput_len {x : α} : ∀ {S : List α} {laid : Bool}, (rput t x laid S).length ≤ S.length + (if laid then 0 else 1)
  | [], laid => by cases laid <;> simp [rput]
  | s :: S, laid => by
    unfold rput
    have ih := rput_len (x := x) (S := S) (laid := laid || decide (t x < t s))
    rw [List.length_append, List.length_append, List.length_cons]
    have h1 : (if t s ≠ t x then [s] else []).length ≤ 1 := by split <;> simp
    generalize (if t s ≠ t x then [s] else []).length = p at *
    generalize (rput t x (laid || decide (t x < t s)) S).length = q at *
    cases laid with
    | true =>
      simp only [Bool.true_or, if_true] at ih
      rw [if_neg (fun h => by cases h.1)]
      simp only [List.length_nil, if_true]
      omega
    | false =>
      by_cases hc : t x < t s
      · simp only [decide_eq_true hc, Bool.or_true, if_true] at ih
        rw [if_pos ⟨rfl, hc⟩]
        simp only [List.length_singleton, Bool.false_eq_true, if_false]
        omega
      · simp only [decide_eq_false hc, Bool.or_false, Bool.false_eq_true, if_false] at ih
        rw [if_neg (fun h => hc h.2)]
        simp only [List.length_nil, Bool.false_eq_true, if_false]
        omega
theorem put1_len (S : List α) (x : α) : (put1 k t S x).length ≤ S.length + 1 := by
  unfold put1
  split
  · have := rput_len (t := t) (x := x) (S := S) (laid := false)
    simpa using this
  · split
    · have := rput_len (t := t) (x := x) (S := S) (laid := true)
      simp at this
      omega
    · omega
theorem foldl_len : ∀ (xs S : List α), (xs.foldl (put1 k t) S).length ≤ S.length + xs.length
  | [], S => by simp
  | x :: xs, S => by
    have h1 := foldl_len xs (put1 k t S x)
    have h2 := put1_len (k := k) (t := t) S x
    rw [List.foldl_cons, List.length_cons]
    omega
theorem fo_len (xs : List α) : (fo k t xs).length ≤ xs.length := by
  have := foldl_len (k := k) (t := t) xs []
  simpa [fo] using this

theorem up_one {S : List α} (h : Up t S) {a b : α} (ha : a ∈ S) (hb : b ∈ S) (e : t a = t b) : a = b := by
  induction S with
  | nil => cases ha
  | cons s S ih =>
    have h0 := List.pairwise_cons.1 h
    rcases List.mem_cons.1 ha with ha2 | ha2
    · rcases List.mem_cons.1 hb with hb2 | hb2
      · rw [ha2, hb2]
      · exact absurd e (by rw [ha2]; exact lx_ne (h0.1 b hb2))
    · rcases List.mem_cons.1 hb with hb2 | hb2
      · exact absurd e.symm (by rw [hb2]; exact lx_ne (h0.1 a ha2))
      · exact ih h0.2 ha2 hb2
theorem look_some {S : List α} {u : List UInt8} {y : α} (h : look t S u = some y) : y ∈ S ∧ t y = u :=
  ⟨List.mem_of_find?_eq_some h, by have := List.find?_some h; simpa using this⟩
theorem look_of {S : List α} (h : Up t S) {y : α} (hy : y ∈ S) : look t S (t y) = some y := by
  cases e : look t S (t y) with
  | none =>
    have := List.find?_eq_none.1 e y hy
    simp at this
  | some z =>
    obtain ⟨h1, h2⟩ := look_some e
    rw [up_one h h1 hy h2]
theorem look_none {S : List α} {u : List UInt8} : look t S u = none ↔ ∀ y ∈ S, t y ≠ u := by
  unfold look
  rw [List.find?_eq_none]
  simp
theorem look_iff {S : List α} (h : Up t S) {u : List UInt8} {y : α} : look t S u = some y ↔ y ∈ S ∧ t y = u :=
  ⟨look_some, fun ⟨h1, h2⟩ => h2 ▸ look_of h h1⟩

theorem look_put {S : List α} (h : Up t S) (x : α) (u : List UInt8) : look t (rput t x false S) u = if u = t x then some x else look t S u := by
  have hu := rput_up (x := x) (laid := false) h (fun _ => trivial)
  by_cases e : u = t x
  · subst e
    rw [if_pos rfl]
    exact (look_iff hu).2 ⟨rput_mem.2 (.inl ⟨rfl, rfl⟩), rfl⟩
  · rw [if_neg e]
    cases e2 : look t S u with
    | none =>
      refine look_none.2 fun y hy e3 => ?_
      rcases rput_mem.1 hy with ⟨_, rfl⟩ | ⟨h1, _⟩
      · exact e e3.symm
      · exact look_none.1 e2 y h1 e3
    | some y =>
      obtain ⟨h1, h2⟩ := look_some e2
      exact (look_iff hu).2 ⟨rput_mem.2 (.inr ⟨h1, by rw [h2]; exact e⟩), h2⟩
theorem look_del {S : List α} (h : Up t S) (x : α) (u : List UInt8) : look t (rput t x true S) u = if u = t x then none else look t S u := by
  have hu := rput_up (x := x) (laid := true) h (fun _ => trivial)
  by_cases e : u = t x
  · subst e
    rw [if_pos rfl]
    refine look_none.2 fun y hy e3 => ?_
    rcases rput_mem.1 hy with ⟨h1, _⟩ | ⟨_, h1⟩
    · cases h1
    · exact h1 e3
  · rw [if_neg e]
    cases e2 : look t S u with
    | none =>
      refine look_none.2 fun y hy e3 => ?_
      rcases rput_mem.1 hy with ⟨h1, _⟩ | ⟨h1, _⟩
      · cases h1
      · exact look_none.1 e2 y h1 e3
    | some y =>
      obtain ⟨h1, h2⟩ := look_some e2
      exact (look_iff hu).2 ⟨rput_mem.2 (.inr ⟨h1, by rw [h2]; exact e⟩), h2⟩

/-- Behind records of other texts a text is as it was. -/
theorem look_past : ∀ (xs S : List α) (u : List UInt8), Up t S → (∀ x ∈ xs, t x = u → k x ≠ 1 ∧ k x ≠ 2) → look t (xs.foldl (put1 k t) S) u = look t S u
  | [], _, _, _, _ => rfl
  | x :: xs, S, u, h, hx => by
    rw [List.foldl_cons, look_past xs _ u (put1_up h x) (fun y hy => hx y (List.mem_cons_of_mem _ hy))]
    have h0 := hx x List.mem_cons_self
    unfold put1
    by_cases h1 : k x = 1
    · rw [if_pos h1, look_put h, if_neg (fun e => (h0 e.symm).1 h1)]
    · rw [if_neg h1]
      by_cases h2 : k x = 2
      · rw [if_pos h2, look_del h, if_neg (fun e => (h0 e.symm).2 h2)]
      · rw [if_neg h2]
theorem look_put1 {S : List α} (h : Up t S) (x : α) (hk : k x = 1 ∨ k x = 2) : look t (put1 k t S x) (t x) = if k x = 1 then some x else none := by
  unfold put1
  by_cases h1 : k x = 1
  · rw [if_pos h1, if_pos h1, look_put h, if_pos rfl]
  · rw [if_neg h1, if_neg h1, if_pos (hk.resolve_left h1), look_del h, if_pos rfl]
/-- What is found of a text: what its last record tells. -/
theorem look_last (A B : List α) (x : α) (hk : k x = 1 ∨ k x = 2) (hB : ∀ y ∈ B, t y = t x → k y ≠ 1 ∧ k y ≠ 2) : look t (fo k t (A ++ x :: B)) (t x) = if k x = 1 then some x else none := by
  unfold fo
  rw [List.foldl_append, List.foldl_cons, look_past B _ _ (put1_up (foldl_up A [] List.Pairwise.nil) x) hB]
  exact look_put1 (foldl_up A [] List.Pairwise.nil) x hk

theorem rput_last (x : α) : ∀ (S : List α), (∀ s ∈ S, t s < t x) → rput t x false S = S ++ [x]
  | [], _ => by simp [rput]
  | s :: S, h => by
    have h1 := h s List.mem_cons_self
    unfold rput
    have h3 : ¬ t x < t s := lx_asymm h1
    have h2 := rput_last x S (fun y hy => h y (List.mem_cons_of_mem _ hy))
    simp [h3, lx_ne h1, h2]
theorem foldl_last : ∀ (B A : List α), Up t (A ++ B) → (∀ x ∈ B, k x = 1) → B.foldl (put1 k t) A = A ++ B
  | [], A, _, _ => by simp
  | x :: B, A, h, hk => by
    have h1 : put1 k t A x = A ++ [x] := by
      unfold put1
      rw [if_pos (hk x List.mem_cons_self)]
      exact rput_last x A (fun s hs => (List.pairwise_append.1 h).2.2 s hs x List.mem_cons_self)
    rw [List.foldl_cons, h1, foldl_last B (A ++ [x]) (by simpa using h) (fun y hy => hk y (List.mem_cons_of_mem _ hy))]
    simp
/-- A state's fold is itself. -/
theorem fo_state {S : List α} (h : Up t S) (hk : ∀ x ∈ S, k x = 1) : fo k t S = S := by
  have := foldl_last (k := k) S [] (by simpa using h) hk
  simpa [fo] using this
theorem fo_fo (xs : List α) : fo k t (fo k t xs) = fo k t xs := fo_state (fo_up xs) (fun _ hx => (fo_mem hx).2)
theorem fo_parts (A B : List α) : fo k t (fo k t A ++ B) = fo k t (A ++ B) := by
  have h := fo_fo (k := k) (t := t) A
  unfold fo at *
  rw [List.foldl_append, List.foldl_append, h]

section
variable {k' : β → Int} {t' : β → List UInt8} (f : α → β) (hk : ∀ x, k' (f x) = k x) (ht : ∀ x, t' (f x) = t x)
include hk ht
omit hk in
theorem rput_map (x : α) : ∀ (S : List α) (laid : Bool), (rput t x laid S).map f = rput t' (f x) laid (S.map f)
  | [], laid => by cases laid <;> rfl
  | s :: S, laid => by
    rw [List.map_cons]
    unfold rput
    rw [List.map_append, List.map_append, rput_map x S, ht, ht]
    congr 1
    · split <;> rfl
    · congr 1
      split <;> rfl
theorem put1_map (S : List α) (x : α) : (put1 k t S x).map f = put1 k' t' (S.map f) (f x) := by
  unfold put1
  rw [hk]
  split
  · exact rput_map f ht x S false
  · split
    · exact rput_map f ht x S true
    · rfl
theorem foldl_map2 : ∀ (xs S : List α), (xs.foldl (put1 k t) S).map f = (xs.map f).foldl (put1 k' t') (S.map f)
  | [], _ => rfl
  | x :: xs, S => by
    rw [List.foldl_cons, foldl_map2 xs, List.map_cons, List.foldl_cons, put1_map f hk ht]
theorem fo_map (xs : List α) : (fo k t xs).map f = fo k' t' (xs.map f) := foldl_map2 f hk ht xs []
end

/-- What texts rise, sorted. -/
theorem sort_up {S : List α} (h : Up t S) {ss : List (List UInt8)} (hn : ss.Nodup) (hm : ∀ u, u ∈ ss ↔ (look t S u).isSome = true) : ss.mergeSort (fun x y => decide (x ≤ y)) = S.map t := by
  have hs : (S.map t).Pairwise (fun a b => a < b) := List.pairwise_map.2 h
  have hp : ss.Perm (S.map t) := by
    refine (List.perm_ext_iff_of_nodup hn (hs.imp fun hab => lx_ne hab)).2 fun u => ?_
    rw [hm u, List.mem_map]
    constructor
    · intro h1
      obtain ⟨y, hy⟩ := Option.isSome_iff_exists.1 h1
      exact ⟨y, (look_some hy).1, (look_some hy).2⟩
    · rintro ⟨y, hy, rfl⟩
      rw [look_of h hy]
      rfl
  have tr : ∀ a b c : List UInt8, leB a b = true → leB b c = true → leB a c = true := fun a b c h1 h2 => by simp only [leB, decide_eq_true_eq] at *; exact List.le_trans h1 h2
  have to : ∀ a b : List UInt8, (leB a b || leB b a) = true := fun a b => by simp only [leB, Bool.or_eq_true, decide_eq_true_eq]; exact List.le_total a b
  refine List.Perm.eq_of_pairwise (le := fun a b => leB a b = true) (fun a b _ _ h1 h2 => ?_) (List.pairwise_mergeSort tr to ss) (hs.imp fun hab => by simp only [leB, decide_eq_true_eq]; exact List.le_of_lt hab) ((List.mergeSort_perm ss leB).trans hp)
  simp only [leB, decide_eq_true_eq] at h1 h2
  exact List.le_antisymm h1 h2

theorem up_at {S : List α} (h : Up t S) {i : Nat} {y : α} (hy : S[i]? = some y) : look t S (t y) = some y := look_of h (List.mem_of_getElem? hy)
end

end Go.Proofs.YtgioknppnfencaaDoor

/- Rows of records in memory. -/
namespace Go.Proofs.YtgioknppnfencaaDoor
open Go.RowKit

/-- A record among others: its fields, where its deps lie, and what they are. -/
structure Rw where
  r : Rc
  A : Option Addr
  n : Nat
  c : Nat
  l : List Dp

def Rw.cells (x : Rw) : List Value := [.int .i64 x.r.kind, .string (tx x.r.target), .int .u64 x.r.rule, .slice x.A x.n x.c, .int .u64 x.r.out, .int .u64 x.r.time, .string (tx x.r.tag)]
def rws (xs : List Rw) : List Value := xs.flatMap Rw.cells
/-- What a record says, wherever its deps lie. -/
def Rw.say (x : Rw) : Rc × List Dp := (x.r, x.l)

theorem cells_len (x : Rw) : x.cells.length = 7 := rfl
theorem rws_nil : rws [] = [] := rfl
theorem rws_cons (x : Rw) (xs : List Rw) : rws (x :: xs) = x.cells ++ rws xs := rfl
theorem rws_app (xs ys : List Rw) : rws (xs ++ ys) = rws xs ++ rws ys := List.flatMap_append
theorem rws_len : ∀ xs : List Rw, (rws xs).length = xs.length * 7
  | [] => rfl
  | x :: xs => by rw [rws_cons, List.length_append, rws_len xs, cells_len, List.length_cons]; omega
theorem rws_at : ∀ (xs : List Rw) (i : Nat) (x : Rw), xs[i]? = some x → ∀ k u, x.cells[k]? = some u → (rws xs)[i * 7 + k]? = some u
  | [], i, x, h => by simp at h
  | a :: xs, 0, x, h => fun k u hu => by
    obtain rfl : a = x := by simpa using h
    have hk : k < 7 := (List.getElem?_eq_some_iff.1 hu).1
    rw [rws_cons, List.getElem?_append_left (by rw [cells_len]; omega), Nat.zero_mul, Nat.zero_add]
    exact hu
  | a :: xs, i + 1, x, h => fun k u hu => by
    rw [rws_cons, List.getElem?_append_right (by rw [cells_len]; omega), cells_len, show (i + 1) * 7 + k - 7 = i * 7 + k by omega]
    exact rws_at xs i x (by simpa using h) k u hu
theorem rws_back : ∀ (xs : List Rw) (j : Nat) (u : Value), (rws xs)[j]? = some u → ∃ x, xs[j / 7]? = some x ∧ x.cells[j % 7]? = some u
  | [], j, u, h => by simp [rws] at h
  | a :: xs, j, u, h => by
    rw [rws_cons] at h
    rcases Nat.lt_or_ge j 7 with hlt | hge
    · rw [List.getElem?_append_left (by rw [cells_len]; exact hlt)] at h
      exact ⟨a, by rw [show j / 7 = 0 by omega]; rfl, by rw [show j % 7 = j by omega]; exact h⟩
    · rw [List.getElem?_append_right (by rw [cells_len]; exact hge), cells_len] at h
      obtain ⟨x, h1, h2⟩ := rws_back xs (j - 7) u h
      exact ⟨x, by rw [show j / 7 = (j - 7) / 7 + 1 by omega]; simpa using h1, by rw [show j % 7 = (j - 7) % 7 by omega]; exact h2⟩
theorem rws_one (xs : List Rw) : ∀ u ∈ rws xs, u.oneCell' = true := by
  intro u hu
  obtain ⟨x, _, hx⟩ := List.mem_flatMap.1 hu
  simp only [Rw.cells, List.mem_cons, List.not_mem_nil, or_false] at hx
  rcases hx with rfl | rfl | rfl | rfl | rfl | rfl | rfl <;> rfl

theorem add_plus (a : Addr) (m k : Nat) : a.add (m + (k + 1)) = ⟨(a.add m).block, (a.add m).off + (k + 1), none⟩ := by
  unfold Addr.add
  by_cases h : m = 0
  · subst h; simp
  · simp [h, Nat.add_assoc]

/-- The cells of one record of a row. -/
theorem recs_cells {W : World} {B : Nat} {A : Option Addr} {n : Nat} {xs : List Rw} (h : Reads W B 7 A n (rws xs)) (i : Nat) (x : Rw) (hx : xs[i]? = some x) :
    ∃ ad : Addr, A = some ad ∧ ad.block < B ∧ W.cell? (ad.add (i * 7)) = some (.int .i64 x.r.kind) ∧ W.cell? ⟨(ad.add (i * 7)).block, (ad.add (i * 7)).off + 1, none⟩ = some (.string (tx x.r.target)) ∧ W.cell? ⟨(ad.add (i * 7)).block, (ad.add (i * 7)).off + 2, none⟩ = some (.int .u64 x.r.rule) ∧ W.cell? ⟨(ad.add (i * 7)).block, (ad.add (i * 7)).off + 3, none⟩ = some (.slice x.A x.n x.c) ∧ W.cell? ⟨(ad.add (i * 7)).block, (ad.add (i * 7)).off + 4, none⟩ = some (.int .u64 x.r.out) ∧ W.cell? ⟨(ad.add (i * 7)).block, (ad.add (i * 7)).off + 5, none⟩ = some (.int .u64 x.r.time) ∧ W.cell? ⟨(ad.add (i * 7)).block, (ad.add (i * 7)).off + 6, none⟩ = some (.string (tx x.r.tag)) := by
  have hn : 0 < n := by
    have h1 := h.1
    rw [rws_len] at h1
    have := (List.getElem?_eq_some_iff.1 hx).1
    omega
  obtain ⟨ad, rfl, hb, hc⟩ := h.2 hn
  have hat := fun k u hu => hc _ _ (rws_at xs i x hx k u hu)
  refine ⟨ad, rfl, hb, hat 0 _ rfl, ?_, ?_, ?_, ?_, ?_, ?_⟩
  · rw [← add_plus ad (i * 7) 0]; exact hat 1 _ rfl
  · rw [← add_plus ad (i * 7) 1]; exact hat 2 _ rfl
  · rw [← add_plus ad (i * 7) 2]; exact hat 3 _ rfl
  · rw [← add_plus ad (i * 7) 3]; exact hat 4 _ rfl
  · rw [← add_plus ad (i * 7) 4]; exact hat 5 _ rfl
  · rw [← add_plus ad (i * 7) 5]; exact hat 6 _ rfl

/-- Records that lie in memory, below a bound. -/
def Recs (w : World) (B : Nat) (A : Option Addr) (n : Nat) (xs : List Rw) : Prop :=
  Reads w B 7 A n (rws xs) ∧ ∀ x ∈ xs, Reads w B 3 x.A x.n (dps x.l) ∧ (x.A = none → x.c = 0)

theorem Recs.len {w : World} {B : Nat} {A : Option Addr} {n : Nat} {xs : List Rw} (h : Recs w B A n xs) : xs.length = n := by
  have := h.1.1
  rw [rws_len] at this
  omega
theorem Recs.more {w : World} {B B' : Nat} {A : Option Addr} {n : Nat} {xs : List Rw} (h : Recs w B A n xs) (hB : B ≤ B') : Recs w B' A n xs :=
  ⟨h.1.more hB, fun x hx => ⟨(h.2 x hx).1.more hB, (h.2 x hx).2⟩⟩
theorem Recs.below {w w' : World} {B : Nat} {A : Option Addr} {n : Nat} {xs : List Rw} (h : Recs w B A n xs) (hb : Below B w w') : Recs w' B A n xs :=
  ⟨h.1.below hb, fun x hx => ⟨(h.2 x hx).1.below hb, (h.2 x hx).2⟩⟩
theorem Recs.nil (w : World) (B : Nat) (A : Option Addr) : Recs w B A 0 [] := ⟨⟨by simp [rws], fun h => absurd h (by omega)⟩, by simp⟩

/-- Deps in memory of their own stay where a row of records grows. -/
theorem deps_kept {w w' : World} {base b n c k : Nat} {A : Option Addr} {l : List Dp} {v : Value} {xs : List Value} (hz : Deps w base A n c l) (hv : w.ownsRow b 35 7 v k xs) (hg : w.grownBy w' v.ownBlock) : Deps w' base A n c l :=
  ⟨own_kept hz.1 (own_apart hv hz.1 (by decide)) hg, hz.2⟩
theorem deps_below {w w' : World} {base n c : Nat} {A : Option Addr} {l : List Dp} (h : Deps w base A n c l) (hb : Below w.heap.size w w') : Deps w' base A n c l := ⟨own_below h.1 hb, h.2⟩
theorem deps_alloc {w : World} {base n c : Nat} {A : Option Addr} {l : List Dp} (h : Deps w base A n c l) (o : Obj) : Deps (w.alloc o) base A n c l := ⟨World.ownsRow.alloc h.1 o, h.2⟩
theorem deps_less {w : World} {base base' n c : Nat} {A : Option Addr} {l : List Dp} (h : Deps w base A n c l) (hb : base' ≤ base) : Deps w base' A n c l := ⟨own_less h.1 hb, h.2⟩

/-- An array of one record, just laid. -/
theorem reads_rec (w : World) (x : Rw) : Reads (w.alloc (.cells #[.int .i64 x.r.kind, .string (tx x.r.target), .int .u64 x.r.rule, .slice x.A x.n x.c, .int .u64 x.r.out, .int .u64 x.r.time, .string (tx x.r.tag)] 35)) (w.heap.size + 1) 7 (some ⟨w.heap.size, 0, none⟩) 1 (rws [x]) := by
  have hh := one_new w (.cells #[.int .i64 x.r.kind, .string (tx x.r.target), .int .u64 x.r.rule, .slice x.A x.n x.c, .int .u64 x.r.out, .int .u64 x.r.time, .string (tx x.r.tag)] 35)
  refine ⟨rfl, fun _ => ⟨_, rfl, by show w.heap.size < _; omega, fun j u hu => ?_⟩⟩
  have hj : j < 7 := (List.getElem?_eq_some_iff.1 hu).1
  have h2 := at_cell (i := j) hh (by simpa [rws, Rw.cells] using hu)
  rw [show (⟨w.heap.size, 0, none⟩ : Addr).add j = ⟨w.heap.size, j, none⟩ from by unfold Addr.add; split <;> simp_all]
  exact h2

theorem recs_row (W : World) (ad : Addr) (P : Rw → Prop) : ∀ n : Nat, (∀ i, i < n → ∃ x : Rw, P x ∧ ∀ k u, x.cells[k]? = some u → W.cell? (ad.add (i * 7 + k)) = some u) →
    ∃ xs : List Rw, xs.length = n ∧ (∀ x ∈ xs, P x) ∧ ∀ i x, xs[i]? = some x → ∀ k u, x.cells[k]? = some u → W.cell? (ad.add (i * 7 + k)) = some u
  | 0, _ => ⟨[], rfl, by simp, by simp⟩
  | n + 1, h => by
    obtain ⟨ts, h1, h2, h3⟩ := recs_row W ad P n (fun i hi => h i (by omega))
    obtain ⟨t, g1, g2⟩ := h n (by omega)
    refine ⟨ts ++ [t], by simp [h1], ?_, ?_⟩
    · intro u hu
      rcases List.mem_append.1 hu with hu | hu
      · exact h2 u hu
      · have : u = t := by simpa using hu
        rw [this]; exact g1
    · intro i u hu
      rcases Nat.lt_or_ge i ts.length with hlt | hge
      · rw [List.getElem?_append_left hlt] at hu
        exact h3 i u hu
      · rw [List.getElem?_append_right hge] at hu
        have hi : i = n := by
          rcases Nat.lt_or_ge (i - ts.length) 1 with h4 | h4
          · omega
          · rw [List.getElem?_eq_none (by simpa using h4)] at hu; cases hu
        subst hi
        rw [h1, Nat.sub_self] at hu
        have : t = u := by simpa using hu
        rw [← this]; exact g2

end Go.Proofs.YtgioknppnfencaaDoor

/- A map of records beside the fold that it holds. -/
namespace Go.Proofs.YtgioknppnfencaaDoor
open Go.RowKit

/-- An element as itself. -/
def selfElem (v : Value) : Option (DataW Value × List MemPlace) := some (.held v, [])
def Rw.val (x : Rw) : Value := rcv x.r x.A x.n x.c
def Rw.t (x : Rw) : List UInt8 := x.r.target
def Rw.k (x : Rw) : Int := x.r.kind

theorem self_inv {v : Value} {z : DataW Value × List MemPlace} (h : selfElem v = some z) : z.1 = .held v := by
  unfold selfElem at h
  obtain rfl := Option.some.inj h
  rfl

/-- A map holds a state. -/
def MapOf (D : DataW Value) (S : List Rw) : Prop := Up Rw.t S ∧ ∀ u z, D.atKey (.string u) z = match look Rw.t S u with | some x => .held x.val | none => z

theorem MapOf.start : MapOf (.map []) [] := ⟨List.Pairwise.nil, fun _ _ => rfl⟩
theorem MapOf.has {D : DataW Value} {S : List Rw} (h : MapOf D S) (u : List UInt8) : Maps.has D (.string u) = (look Rw.t S u).isSome := by
  have h1 := h.2 u
  cases e : look Rw.t S u with
  | none => simp only [e] at h1; exact Maps.has_false_of_atKey h1
  | some x => simp only [e] at h1; exact Maps.has_true_of_atKey h1
theorem MapOf.put {D : DataW Value} {S : List Rw} (h : MapOf D S) (hD : Maps.IsMap D) (x : Rw) : MapOf (D.put (.string x.t) (.held x.val)) (rput Rw.t x false S) := by
  refine ⟨rput_up h.1 (fun _ => trivial), fun u z => ?_⟩
  rw [look_put h.1]
  by_cases e : u = x.t
  · subst e
    rw [if_pos rfl]
    exact Maps.atKey_put_same hD (show WideAt.IsKeyLit (.string x.t) from trivial) _ _
  · rw [if_neg e, Maps.atKey_put_other (fun e2 => e (by injection e2))]
    exact h.2 u z
theorem MapOf.del {D : DataW Value} {S : List Rw} (h : MapOf D S) (x : Rw) : MapOf (D.del (.string x.t)) (rput Rw.t x true S) := by
  refine ⟨rput_up h.1 (fun _ => trivial), fun u z => ?_⟩
  rw [look_del h.1]
  by_cases e : u = x.t
  · subst e
    rw [if_pos rfl]
    exact Maps.atKey_del_same _
  · rw [if_neg e, Maps.atKey_del_other (fun e2 => e (by injection e2))]
    exact h.2 u z
/-- What was looked up. -/
theorem MapOf.at {D : DataW Value} {S : List Rw} (h : MapOf D S) {i : Nat} {x : Rw} (hx : S[i]? = some x) (z : DataW Value) : D.atKey (.string x.t) z = .held x.val := by
  rw [h.2, up_at h.1 hx]
/-- What was collected, sorted. -/
theorem MapOf.sorted {D : DataW Value} {S : List Rw} (h : MapOf D S) {left : Lit → Bool} {ss : List (List UInt8)} (hc : Collected D left ss) (hl : ∀ kl, left kl = false) : ss.mergeSort (fun x y => decide (x ≤ y)) = S.map Rw.t :=
  sort_up h.1 hc.1 fun u => by rw [hc.2 u, hl, ← h.has]; simp

theorem below_drewN2 {B : Nat} {w w' : World} (h : Below B w w') (q : Nat) : Below B w (w'.drewN q) := ⟨h.os, h.tape, h.output, h.size, h.block⟩

end Go.Proofs.YtgioknppnfencaaDoor

/- The document's Less. -/
namespace Go.Proofs.YtgioknppnfencaaDoor
open Go.RowKit

theorem lx_pre : ∀ (p a b : List UInt8), p ++ a < p ++ b ↔ a < b
  | [], _, _ => Iff.rfl
  | x :: p, a, b => by
    rw [List.cons_append, List.cons_append, List.cons_lt_cons_iff, lx_pre p]
    simp [UInt8.lt_irrefl]
theorem lx_split {a : List UInt8} {i : Nat} {x : UInt8} (h : a[i]? = some x) : a = a.take i ++ x :: a.drop (i + 1) := by
  obtain ⟨h1, h2⟩ := List.getElem?_eq_some_iff.1 h
  rw [← h2, List.getElem_cons_drop, List.take_append_drop]
theorem lx_at {a b : List UInt8} {i : Nat} {x y : UInt8} (h : a.take i = b.take i) (ha : a[i]? = some x) (hb : b[i]? = some y) (hne : x ≠ y) : a < b ↔ x < y := by
  rw [lx_split ha, lx_split hb, h, lx_pre, List.cons_lt_cons_iff]
  simp [hne]
theorem lx_end {a b : List UInt8} {i : Nat} (h : a.take i = b.take i) (hi : a.length ≤ i ∨ b.length ≤ i) (ha : i ≤ a.length) (hb : i ≤ b.length) : a < b ↔ a.length < b.length := by
  have e1 : a = a.take i ++ a.drop i := (List.take_append_drop i a).symm
  have e2 : b = a.take i ++ b.drop i := by rw [h]; exact (List.take_append_drop i b).symm
  have e3 : a < b ↔ a.drop i < b.drop i := by
    conv => lhs; rw [e1, e2]
    exact lx_pre _ _ _
  rw [e3]
  rcases Nat.lt_or_ge i a.length with h1 | h1
  · have : b.drop i = [] := List.drop_of_length_le (by omega)
    rw [this]
    constructor
    · intro h2; exact absurd h2 (List.not_lt_nil _)
    · intro h2; omega
  · have e4 : a.drop i = [] := List.drop_of_length_le (by omega)
    rw [e4]
    rcases Nat.lt_or_ge i b.length with h2 | h2
    · obtain ⟨y, hy⟩ : ∃ y, b[i]? = some y := ⟨_, List.getElem?_eq_getElem h2⟩
      have : b.drop i = y :: b.drop (i + 1) := by
        obtain ⟨h3, h4⟩ := List.getElem?_eq_some_iff.1 hy
        rw [← h4, List.getElem_cons_drop]
      rw [this]
      constructor
      · intro _; omega
      · intro _; exact List.nil_lt_cons _ _
    · have : b.drop i = [] := List.drop_of_length_le (by omega)
      rw [this]
      constructor
      · intro h3; exact absurd h3 (lx_irr _)
      · intro h3; omega
theorem ltx_at (l : List UInt8) (i : Nat) (x : UInt8) (h : l[i]? = some x) (hp : i < (tx l).size) : (((tx l)[i]'hp).toNat : Int) = (x.toNat : Int) := by
  obtain ⟨h1, h2⟩ := List.getElem?_eq_some_iff.1 h
  rw [← h2]
  rfl

theorem lret_bool {a b : Bool} (h : a = b) : Ending.returned (.bool a) = .returned (.bool b) := by rw [h]

set_option maxRecDepth 100000 in
set_option maxHeartbeats 1000000 in
theorem less_any (a b : List UInt8) (ha : a.length ≤ maxLen) (hb : b.length ≤ maxLen) (w : World) :
    Calls Tryd.prog 37 #[rsv a, rsv b] w fun e w' => e = .returned (.bool (decide (a < b))) ∧ ∃ q, w' = w.drewN q := by
  unfold rsv
  obtain ⟨n, hn⟩ : ∃ n, n = a.length := ⟨_, rfl⟩
  obtain ⟨m, hm⟩ : ∃ m, m = b.length := ⟨_, rfl⟩
  have hs1 : (tx a).size = n := by rw [tx_size0, hn]
  have hs2 : (tx b).size = m := by rw [tx_size0, hm]
  have HN := Lib.hid hn
  have HM := Lib.hid hm
  have HA1 := Lib.hid (fun i x h hp => ltx_at a i x h hp)
  have HA2 := Lib.hid (fun i x h hp => ltx_at b i x h hp)
  rw [← hn] at ha
  rw [← hm] at hb
  unfold maxLen at ha hb
  generalize tx a = s at *
  generalize tx b = t at *
  clear hn hm
  go_enter Tryd.func37, Tryd.ntmps37
  go_wp2
  go_loopw [5] (fun v5 wr => ∃ k : Nat, v5 = .int .i64 (k : Int) ∧ k ≤ n ∧ k ≤ m ∧ a.take k = b.take k ∧ ∃ q, wr = w.drewN q) (fun v5 _ => n - (intOf v5).toNat)
  case atStart => exact ⟨0, rfl, by omega, by omega, rfl, 0, rfl⟩
  case round =>
    obtain ⟨k, rfl, hk1, hk2, htk, q, rfl⟩ := hrel
    have HTK := Lib.hid htk
    clear htk
    have hi0 : (0 : Int) ≤ (k : Int) := by omega
    by_cases h1 : k < n
    · by_cases h2 : k < m
      · obtain ⟨x, hx⟩ : ∃ x, a[k]? = some x := ⟨_, List.getElem?_eq_getElem (by rw [← HN.out]; exact h1)⟩
        obtain ⟨y, hy⟩ : ∃ y, b[k]? = some y := ⟨_, List.getElem?_eq_getElem (by rw [← HM.out]; exact h2)⟩
        have hp1 : k < s.size := by omega
        have hp2 : k < t.size := by omega
        have X := Lib.hid (HA1.out k x hx hp1)
        have Y := Lib.hid (HA2.out k y hy hp2)
        by_cases e : x = y
        · have HT2 : Hid (a.take (k + 1) = b.take (k + 1)) := by
            show _ = _
            rw [List.take_add_one, List.take_add_one, hx, hy, HTK.out, e]
          have hc : ((s[k].toNat : Int) != (t[k].toNat : Int)) = false := by rw [X.out, Y.out, e]; simp
          clear hx hy
          go_wp2
          go_region
          go_wp2
          exact ⟨⟨k + 1, by go_num, by omega, by omega, HT2.out, _, by first | rfl | exact (World.drewN_drewN ..)⟩, by simp [intOf]; omega⟩
        · have hc : ((s[k].toNat : Int) != (t[k].toNat : Int)) = true := by
            rw [X.out, Y.out, bne_iff_ne]
            intro h
            exact e (UInt8.toNat_inj.1 (by omega))
          have HE : Hid (decide (s[k].toNat < t[k].toNat) = decide (a < b)) := by
            have hX := X.out
            have hY := Y.out
            show _ = _
            rw [decide_eq_decide, lx_at HTK.out hx hy e, UInt8.lt_iff_toNat_lt]
            omega
          clear hx hy
          go_wp2
          go_region
          go_wp2
          go_region
          go_wp2
          go_ret
          exact ⟨lret_bool HE.out, _, by first | rfl | exact World.drewN_drewN ..⟩
      · have HE : Hid (decide (n < m) = decide (a < b)) := by
          show _ = _
          rw [decide_eq_decide, lx_end HTK.out (.inr (by rw [← HM.out]; omega)) (by rw [← HN.out]; exact hk1) (by rw [← HM.out]; exact hk2), ← HN.out, ← HM.out]
        go_wp2
        go_ret
        exact ⟨lret_bool HE.out, _, rfl⟩
    · have HE : Hid (decide (n < m) = decide (a < b)) := by
        show _ = _
        rw [decide_eq_decide, lx_end HTK.out (.inl (by rw [← HN.out]; omega)) (by rw [← HN.out]; exact hk1) (by rw [← HM.out]; exact hk2), ← HN.out, ← HM.out]
      go_wp2
      go_ret
      exact ⟨lret_bool HE.out, _, rfl⟩

end Go.Proofs.YtgioknppnfencaaDoor

/- fold.Right. -/
namespace Go.Proofs.YtgioknppnfencaaDoor
open Go.RowKit

/-- Records that are a state. -/
def RightP (S : List Rw) : Prop := Up Rw.t S ∧ ∀ x ∈ S, x.k = 1

theorem up_snoc {S : List Rw} {i : Nat} {x : Rw} (hx : S[i]? = some x) : Up Rw.t (S.take (i + 1)) ↔ Up Rw.t (S.take i) ∧ ∀ y ∈ S.take i, y.t < x.t := by
  unfold Up
  rw [List.take_add_one, hx, List.pairwise_append]
  simp
theorem up_last {S : List Rw} {i : Nat} {x y : Rw} (hx : S[i + 1]? = some x) (hy : S[i]? = some y) (h : Up Rw.t (S.take (i + 1))) : Up Rw.t (S.take (i + 1 + 1)) ↔ y.t < x.t := by
  rw [up_snoc hx]
  constructor
  · intro h2
    exact h2.2 y (by rw [List.take_add_one, hy]; simp)
  · intro h2
    refine ⟨h, fun z hz => ?_⟩
    rw [List.take_add_one, hy, List.mem_append] at hz
    rcases hz with hz | hz
    · exact lx_trans (((up_snoc hy).1 h).2 z hz) h2
    · simp at hz
      rw [hz]
      exact h2
theorem up_take {S : List Rw} (h : Up Rw.t S) (i : Nat) : Up Rw.t (S.take i) := List.Pairwise.sublist (List.take_sublist i S) h
theorem right_take {S : List Rw} (h : RightP S) (i : Nat) : RightP (S.take i) := ⟨up_take h.1 i, fun x hx => h.2 x (List.mem_of_mem_take hx)⟩
theorem right_one {S : List Rw} {i : Nat} {x : Rw} (hx : S[i]? = some x) (h : RightP (S.take i)) (hk : x.k = 1) (hu : Up Rw.t (S.take (i + 1))) : RightP (S.take (i + 1)) := by
  refine ⟨hu, fun y hy => ?_⟩
  rw [List.take_add_one, hx, List.mem_append] at hy
  rcases hy with hy | hy
  · exact h.2 y hy
  · simp at hy
    rw [hy]
    exact hk
theorem lx_leq (a b : List UInt8) : (Op.bytesLess (tx a).toList (tx b).toList || (tx a).toList == (tx b).toList) = !decide (b < a) := by
  rw [bytesLess_eq, tx_toList, tx_toList]
  rcases lx_tri a b with h | h | h
  · simp [h, lx_asymm h]
  · subst h
    simp [lx_irr]
  · simp [h, lx_asymm h]
    exact fun e => lx_ne h e.symm

/-- What stands at a round of Right. -/
def RtRel (n : Nat) (xs : List Rw) (w : World) (idx : Value) (wr : World) : Prop := ∃ i : Nat, i ≤ n ∧ idx = .int .i64 (i : Int) ∧ RightP (xs.take i) ∧ Below w.heap.size w wr

set_option maxRecDepth 100000 in
set_option maxHeartbeats 1000000 in
theorem right_any (A : Option Addr) (n c : Nat) (xs : List Rw) (hn : n ≤ 1000000) (w : World) (h : Recs w w.heap.size A n xs) :
    Calls Tryd.prog 13 #[.slice A n c] w fun e w' => Tells (RightP xs) e ∧ Below w.heap.size w w' := by
  have HL : Hid (xs.length = n) := h.len
  have H1 := Lib.hid h
  clear h
  go_enter Tryd.func13, Tryd.ntmps13
  go_wp2
  go_loopw [7] (fun idx wr => RtRel n xs w idx wr) (fun idx _ => n - (intOf idx).toNat)
  case atStart => exact ⟨0, by omega, rfl, ⟨by simp [Up], by simp⟩, Below.refl _ _⟩
  case round =>
    obtain ⟨i, hi, rfl, hrt, hb⟩ := hrel
    have HRT := Lib.hid hrt
    have HBR := Lib.hid hb
    clear hrt
    by_cases hlt : i < n
    · obtain ⟨x, hx⟩ : ∃ x, xs[i]? = some x := ⟨_, List.getElem?_eq_getElem (by rw [HL.out]; exact hlt)⟩
      have hm := List.mem_of_getElem? hx
      have HX := Lib.hid hx
      have hrec := (H1.out.below hb).1
      obtain ⟨ad, rfl, _, k0, k1, k2, k3, k4, k5, k6⟩ := recs_cells hrec i x hx
      have HB2 := Lib.hid (hb.alloc hb.size (.cells #[.int .i64 x.r.kind, .string (tx x.r.target), .int .u64 x.r.rule, .slice x.A x.n x.c, .int .u64 x.r.out, .int .u64 x.r.time, .string (tx x.r.tag)] 35))
      have hbx := one_new wr (.cells #[.int .i64 x.r.kind, .string (tx x.r.target), .int .u64 x.r.rule, .slice x.A x.n x.c, .int .u64 x.r.out, .int .u64 x.r.time, .string (tx x.r.tag)] 35)
      have q0 := at_cell (i := 0) hbx rfl
      have q1 := at_cell (i := 1) hbx rfl
      have hi0 : (0 : Int) ≤ (i : Int) := by omega
      have hi1 : (i : Int) < (n : Int) := by omega
      by_cases hk : x.r.kind = 1
      · rcases Nat.eq_zero_or_pos i with h0 | h0
        · have HOK : Hid (RightP (xs.take (i + 1))) := right_one hx HRT.out hk ((up_snoc hx).2 ⟨by subst h0; simp [Up], by subst h0; simp⟩)
          have d1 : decide ((i : Int) > 0) = false := decide_eq_false (by omega)
          have d2 : decide (0 < i) = false := decide_eq_false (by omega)
          obtain ⟨⟨k, t, u, o, m, g⟩, A4, n4, c4, l4⟩ := x
          simp only at hk
          subst hk
          simp only at k0 k1 k2 k3 k4 k5 k6 q0 q1 HB2
          clear hx hm hb hrec hbx h0
          go_wp2
          go_quiet (fail)
          go_wp2
          exact ⟨⟨i + 1, by omega, by go_num, HOK.out, below_drewN2 HB2.out _⟩, by simp [intOf]; omega⟩
        · obtain ⟨j, rfl⟩ : ∃ j, i = j + 1 := ⟨i - 1, by omega⟩
          obtain ⟨y, hy⟩ : ∃ y, xs[j]? = some y := ⟨_, List.getElem?_eq_getElem (by rw [HL.out]; omega)⟩
          obtain ⟨ad2, e2, hadb, _, j1, _⟩ := recs_cells hrec j y hy
          obtain rfl : ad = ad2 := by injection e2
          have hq : (wr.alloc (.cells #[.int .i64 x.r.kind, .string (tx x.r.target), .int .u64 x.r.rule, .slice x.A x.n x.c, .int .u64 x.r.out, .int .u64 x.r.time, .string (tx x.r.tag)] 35)).cell? ⟨(ad.add (j * 7)).block, (ad.add (j * 7)).off + 1, none⟩ = some (.string (tx y.t)) :=
            (World.cell?_alloc_lt wr _ _ (by show (ad.add (j * 7)).block < _; rw [block_of_add]; have := hb.size; omega)).trans j1
          have hw : IntKind.i64.wrap (((j + 1 : Nat) : Int) - 1) = (j : Int) := by rw [wrap_small (by omega) (by omega)]; omega
          have hw2 : IntKind.i64.wrap ((j : Int) + 1 - 1) = (j : Int) := by rw [wrap_small (by omega) (by omega)]; omega
          have hj1 : (j : Int) < (n : Int) := by omega
          have hlq := lx_leq x.t y.t
          have HUL := Lib.hid (up_last hx hy HRT.out.1)
          by_cases hlt2 : y.t < x.t
          · have HOK : Hid (RightP (xs.take (j + 1 + 1))) := right_one hx HRT.out hk (HUL.out.2 hlt2)
            rw [decide_eq_true hlt2] at hlq
            obtain ⟨⟨k, t, u, o, m, g⟩, A4, n4, c4, l4⟩ := x
            unfold Rw.t at hlq hq
            simp only at hk
            subst hk
            simp only [Bool.not_true] at k0 k1 k2 k3 k4 k5 k6 q0 q1 HB2 hlq hq
            generalize y.r.target = v at *
            clear hx hm hb hrec hbx hy j1 hlt2 HUL
            go_wp2
            go_quiet (fail)
            go_wp2
            exact ⟨⟨j + 1 + 1, by omega, by go_num, HOK.out, below_drewN2 HB2.out _⟩, by simp [intOf]; omega⟩
          · have HNO : Hid (¬ RightP xs) := fun h => hlt2 (HUL.out.1 (up_take h.1 _))
            rw [decide_eq_false hlt2] at hlq
            obtain ⟨⟨k, t, u, o, m, g⟩, A4, n4, c4, l4⟩ := x
            unfold Rw.t at hlq hq
            simp only at hk
            subst hk
            simp only [Bool.not_false] at k0 k1 k2 k3 k4 k5 k6 q0 q1 HB2 hlq hq
            generalize y.r.target = v at *
            clear hx hm hb hrec hbx hy j1 hlt2 HUL
            go_wp2
            go_quiet (fail)
            go_wp2
            go_ret
            exact ⟨tells_false HNO.out, below_drewN2 HB2.out _⟩
      · have HNO : Hid (¬ RightP xs) := fun h => hk (h.2 x hm)
        have d0 : (x.r.kind != 1) = true := by rw [bne_iff_ne]; exact hk
        obtain ⟨⟨k, t, u, o, m, g⟩, A4, n4, c4, l4⟩ := x
        simp only at k0 k1 k2 k3 k4 k5 k6 q0 q1 HB2 d0
        clear hx hm hb hrec hbx hk
        go_wp2
        go_quiet (fail)
        go_wp2
        go_ret
        exact ⟨tells_false HNO.out, below_drewN2 HB2.out _⟩
    · obtain rfl : i = n := by omega
      rw [List.take_of_length_le (by rw [HL.out]; omega)] at HRT
      clear hb
      go_wp2
      go_ret
      exact ⟨tells_true HRT.out, HBR.out⟩

end Go.Proofs.YtgioknppnfencaaDoor

/- Great of records. -/
namespace Go.Proofs.YtgioknppnfencaaDoor
open Go.RowKit

def smalls (xs : List Rw) : Prop := (∀ x ∈ xs, small x.r x.l) ∧ xs.length ≤ 30

set_option maxRecDepth 100000 in
set_option maxHeartbeats 1000000 in
theorem greats_any (A : Option Addr) (n c : Nat) (xs : List Rw) (hn : n ≤ maxLen) (hf : ∀ x ∈ xs, Fits x.r x.l ∧ x.n ≤ maxLen) (w : World) (h : Recs w w.heap.size A n xs) :
    Calls Tryd.prog 5 #[.slice A n c] w fun e w' => Tells (¬ smalls xs) e ∧ Below w.heap.size w w' := by
  have HL : Hid (xs.length = n) := h.len
  have H1 := Lib.hid h
  have HF := Lib.hid hf
  unfold maxLen at hn
  clear h hf
  go_enter Tryd.func5, Tryd.ntmps5
  go_wp2
  go_loopw [7] (fun idx wr => ∃ i : Nat, i ≤ n ∧ idx = .int .i64 (i : Int) ∧ (∀ x ∈ xs.take i, small x.r x.l) ∧ Below w.heap.size w wr) (fun idx wr => n - (intOf idx).toNat)
  case atStart => exact ⟨0, by omega, rfl, by simp, Below.refl _ _⟩
  case round =>
    obtain ⟨i, hi, rfl, hsm, hb⟩ := hrel
    have HSM := Lib.hid hsm
    have HBR := Lib.hid hb
    clear hsm
    by_cases hlt : i < n
    · obtain ⟨x, hx⟩ : ∃ x, xs[i]? = some x := ⟨_, List.getElem?_eq_getElem (by rw [HL.out]; exact hlt)⟩
      have hm := List.mem_of_getElem? hx
      obtain ⟨hfx, hnx⟩ := HF.out x hm
      have hrx := (H1.out.2 x hm).1
      obtain ⟨ad, rfl, _, k0, k1, k2, k3, k4, k5, k6⟩ := recs_cells (H1.out.below hb).1 i x hx
      have HX : Hid (small x.r x.l → ∀ y ∈ xs.take (i + 1), small y.r y.l) := fun hs y hy => by
        rw [List.take_add_one, hx, List.mem_append] at hy
        rcases hy with hy | hy
        · exact HSM.out y hy
        · simp at hy; subst hy; exact hs
      have HNO : Hid (¬ small x.r x.l → ¬ smalls xs) := fun hs h => hs (h.1 x hm)
      obtain ⟨⟨k, t, u, o, m, g⟩, A4, n4, c4, l4⟩ := x
      simp only at k0 k1 k2 k3 k4 k5 k6 hfx hnx hrx
      have HRX := Lib.hid hrx
      have HFX := Lib.hid hfx
      have HNX := Lib.hid hnx
      have hi0 : (0 : Int) ≤ (i : Int) := by omega
      have hi1 : (i : Int) < (n : Int) := by omega
      have HB2 := Lib.hid (hb.alloc hb.size (.cells #[.int .i64 k, .string (tx t), .int .u64 u, .slice A4 n4 c4, .int .u64 o, .int .u64 m, .string (tx g)] 35))
      have HS2 : Hid (wr.heap.size ≤ (wr.alloc (.cells #[.int .i64 k, .string (tx t), .int .u64 u, .slice A4 n4 c4, .int .u64 o, .int .u64 m, .string (tx g)] 35)).heap.size) := by show _ ≤ _; simp
      clear hx hm hfx hnx hrx hb
      by_cases hs : small ⟨k, t, u, o, m, g⟩ l4
      · have HS := Lib.hid hs
        go_wp2_with (go_at_call 11; refine (great_says ⟨k, t, u, o, m, g⟩ A4 n4 c4 l4 _ HNX.out HFX.out.2.2 HFX.out.1 HFX.out.2.1 ((HRX.out.below HB2.out).more HB2.out.size)).mono ?_; rintro e w3 ⟨he, hb3⟩; obtain rfl := he.no (fun h => h HS.out); have HB3 := Lib.hid (HB2.out.trans (hb3.mono HB2.out.size)); clear hb3)
        exact ⟨⟨i + 1, by omega, by go_num, HX.out HS.out, HB3.out⟩, by simp [intOf]; omega⟩
      · have HS := Lib.hid hs
        go_wp2_with (go_at_call 11; refine (great_says ⟨k, t, u, o, m, g⟩ A4 n4 c4 l4 _ HNX.out HFX.out.2.2 HFX.out.1 HFX.out.2.1 ((HRX.out.below HB2.out).more HB2.out.size)).mono ?_; rintro e w3 ⟨he, hb3⟩; obtain rfl := he.yes HS.out; have HB3 := Lib.hid (HB2.out.trans (hb3.mono HB2.out.size)); clear hb3)
        go_ret
        exact ⟨tells_true (HNO.out HS.out), HB3.out⟩
    · obtain rfl : i = n := by omega
      rw [List.take_of_length_le (by rw [HL.out]; omega)] at HSM
      clear hb
      by_cases h30 : i ≤ 30
      · have HQ : Hid (smalls xs) := ⟨HSM.out, by rw [HL.out]; exact h30⟩
        go_wp2
        go_ret
        exact ⟨by first | exact tells_false (fun h => h HQ.out) | (refine (show ∀ {b : Bool}, b = false → Tells (¬ smalls xs) (.returned (.bool b)) from fun h => h ▸ tells_false (fun h => h HQ.out)) ?_; simp; omega), HBR.out⟩
      · have HQ : Hid (¬ smalls xs) := fun h => h30 (by have := h.2; rw [HL.out] at this; exact this)
        have END : Hid (∀ b : Bool, b = true → Tells (¬ smalls xs) (.returned (.bool b))) := fun b h => h ▸ tells_true HQ.out
        go_wp2
        go_ret
        exact ⟨END.out _ (by first | rfl | (simp; omega)), HBR.out⟩

end Go.Proofs.YtgioknppnfencaaDoor

/- A state's text: mathematics; a record's line, whichever record it is. -/
namespace Go.Proofs.YtgioknppnfencaaDoor
open Go.RowKit

/-- A record whose line may be asked for. -/
def LGood (x : Rw) : Prop := Fits x.r x.l ∧ Nums x.r x.l ∧ small x.r x.l
def lnOk (x : Rw) : Prop := x.r.kind = 1 ∧ MayP 3 x.r x.l
def lnT (x : Rw) : List UInt8 := joinw (linews x.r.target x.r.rule.toNat x.r.out.toNat x.r.time.toNat x.r.tag x.l)
theorem ln_len {x : Rw} (h : LGood x) : (lnT x).length ≤ 260000 := by
  obtain ⟨r, A, n, c, l⟩ := x
  obtain ⟨hf, ⟨_, _, ⟨m0, m1⟩, _⟩, h1, h2, h3, h4⟩ := h
  have h5 := linews_take (t := r.target) (g := r.tag) (zu := r.rule.toNat) (zo := r.out.toNat) (zm := r.time.toNat) (i := l.length) (l := l) (linews_len (by simp only at m0 m1; omega) h3 h4 h1) h2
  rw [List.take_length] at h5
  exact h5
/-- dump.Line of a record. -/
theorem ln_any (x : Rw) (hx : LGood x) (w : World) (hp : PowTab w) (h : Reads w w.heap.size 3 x.A x.n (dps x.l)) :
    Calls Tryd.prog 17 #[.agg #[.int .i64 x.r.kind, .string (tx x.r.target), .int .u64 x.r.rule, .slice x.A x.n x.c, .int .u64 x.r.out, .int .u64 x.r.time, .string (tx x.r.tag)]] w fun e w' =>
      ((lnOk x ∧ e = .returned (.tuple #[.string (tx (lnT x)), .int .i64 0])) ∨ (¬ lnOk x ∧ e = .returned (.tuple #[.string { data := #[] }, .int .i64 1]))) ∧ Below w.heap.size w w' := by
  obtain ⟨⟨k, t, u, o, m, g⟩, A, n, c, l⟩ := x
  obtain ⟨hfit, hnu, hsm⟩ := hx
  have hln : l.length = n := by have := h.1; rw [dps_len] at this; simp only at this; omega
  have hn : n ≤ 1000 := by have := hsm.2.1; simp only at this; omega
  by_cases hok : lnOk ⟨⟨k, t, u, o, m, g⟩, A, n, c, l⟩
  · obtain ⟨hk, hmay⟩ := id hok
    obtain ⟨⟨u0, u1⟩, ⟨o0, o1⟩, ⟨m0, m1⟩, hds⟩ := hnu
    simp only at u0 u1 o0 o1 m0 m1 hk
    subst hk
    obtain ⟨zu, rfl⟩ := Int.eq_ofNat_of_zero_le u0
    obtain ⟨zo, rfl⟩ := Int.eq_ofNat_of_zero_le o0
    obtain ⟨zm, rfl⟩ := Int.eq_ofNat_of_zero_le m0
    exact (dline_ok zu zo zm t g A n c l (by omega) (by omega) (by omega) hds hmay hfit hsm w hp h).mono fun e w' ⟨he, hb⟩ => ⟨.inl ⟨hok, he⟩, hb⟩
  · exact (dline_no k u o m t g A n c l hn hfit hok w h).mono fun e w' ⟨he, hb⟩ => ⟨.inr ⟨hok, he⟩, hb⟩
theorem rln_any (x : Rw) (hx : LGood x) (w : World) (h : Reads w w.heap.size 3 x.A x.n (dps x.l)) :
    Calls Tryd.prog 22 #[.agg #[.int .i64 x.r.kind, .string (tx x.r.target), .int .u64 x.r.rule, .slice x.A x.n x.c, .int .u64 x.r.out, .int .u64 x.r.time, .string (tx x.r.tag)]] w fun e w' =>
      ((lnOk x ∧ e = .returned (.tuple #[.string (tx (lnT x)), .int .i64 0])) ∨ (¬ lnOk x ∧ e = .returned (.tuple #[.string { data := #[] }, .int .i64 1]))) ∧ Below w.heap.size w w' := by
  obtain ⟨⟨k, t, u, o, m, g⟩, A, n, c, l⟩ := x
  obtain ⟨hfit, hnu, hsm⟩ := hx
  have hln : l.length = n := by have := h.1; rw [dps_len] at this; simp only at this; omega
  have hn : n ≤ 1000 := by have := hsm.2.1; simp only at this; omega
  by_cases hok : lnOk ⟨⟨k, t, u, o, m, g⟩, A, n, c, l⟩
  · obtain ⟨hk, hmay⟩ := id hok
    obtain ⟨⟨u0, u1⟩, ⟨o0, o1⟩, ⟨m0, m1⟩, hds⟩ := hnu
    simp only at u0 u1 o0 o1 m0 m1 hk
    subst hk
    obtain ⟨zu, rfl⟩ := Int.eq_ofNat_of_zero_le u0
    obtain ⟨zo, rfl⟩ := Int.eq_ofNat_of_zero_le o0
    obtain ⟨zm, rfl⟩ := Int.eq_ofNat_of_zero_le m0
    exact (rline_ok zu zo zm t g A n c l (by omega) (by omega) (by omega) hds hmay hfit hsm w h).mono fun e w' ⟨he, hb⟩ => ⟨.inl ⟨hok, he⟩, hb⟩
  · exact (rline_no k u o m t g A n c l hn hfit hok w h).mono fun e w' ⟨he, hb⟩ => ⟨.inr ⟨hok, he⟩, hb⟩

/-- The head of a text; its lines; all of it. -/
def hdT (n : Nat) : List UInt8 := [116, 101, 112, 104, 114, 97, 32] ++ Lib.decDigits n ++ [10]
def lnsT (xs : List Rw) : List UInt8 := xs.flatMap fun x => lnT x ++ [10]
def txt (xs : List Rw) : List UInt8 := hdT xs.length ++ lnsT xs
/-- What has a text. -/
def OkT (xs : List Rw) : Prop := RightP xs ∧ ∀ x ∈ xs, lnOk x
theorem lns_snoc {xs : List Rw} {i : Nat} {x : Rw} (hx : xs[i]? = some x) : lnsT (xs.take (i + 1)) = lnsT (xs.take i) ++ (lnT x ++ [10]) := by
  unfold lnsT
  rw [List.take_add_one, hx, List.flatMap_append]
  simp
theorem lns_len {xs : List Rw} {M : Nat} (h : ∀ x ∈ xs, (lnT x).length + 1 ≤ M) (i : Nat) : (lnsT (xs.take i)).length ≤ i * M := by
  induction i with
  | zero => simp [lnsT]
  | succ i ih =>
    rw [Nat.succ_mul]
    rcases Nat.lt_or_ge i xs.length with hi | hi
    · have hx : xs[i]? = some xs[i] := List.getElem?_eq_getElem hi
      rw [lns_snoc hx, List.length_append, List.length_append]
      have := h _ (List.getElem_mem hi)
      simp only [List.length_cons, List.length_nil]
      omega
    · rw [List.take_of_length_le (Nat.le_succ_of_le hi)]
      rw [List.take_of_length_le hi] at ih
      omega
theorem dec_small2 {n : Nat} (h : n < 100) : (Lib.decDigits n).length ≤ 2 := by
  by_cases h1 : n < 10
  · rw [dec_small h1]; simp
  · rw [dec_big h1, List.length_append, dec_small (show n / 10 < 10 by omega), dec_small (show n % 10 < 10 by omega)]
    simp
theorem hd_len {n : Nat} (h : n < 100) : (hdT n).length ≤ 10 := by
  have := dec_small2 h
  unfold hdT
  simp
  omega
/-- What both answer of records. -/
def AnsT (xs : List Rw) (e : Ending) : Prop := (OkT xs ∧ e = .returned (.tuple #[.string (tx (seald (txt xs))), .int .i64 0])) ∨ (¬ OkT xs ∧ e = .returned (.tuple #[.string { data := #[] }, .int .i64 1]))
theorem cells_more (l m : List UInt8) : Lib.byteCells l ++ Lib.strCells (tx m) = Lib.byteCells (l ++ m) := by
  unfold Lib.byteCells Lib.strCells
  rw [List.map_append]
  rfl
theorem ok_step {xs : List Rw} {i : Nat} {x : Rw} (hx : xs[i]? = some x) (h : ∀ y ∈ xs.take i, lnOk y) (hk : lnOk x) : ∀ y ∈ xs.take (i + 1), lnOk y := fun y hy => by
  rw [List.take_add_one, hx, List.mem_append] at hy
  rcases hy with hy | hy
  · exact h y hy
  · simp at hy
    rw [hy]
    exact hk

end Go.Proofs.YtgioknppnfencaaDoor

/- A builder that has been written to: one more write. -/
namespace Go.Proofs.YtgioknppnfencaaDoor
open Go.RowKit

set_option maxHeartbeats 1000000 in
set_option maxRecDepth 100000 in
theorem check_used (b : Nat) (w : World) (h0 : w.cell? ⟨b, 0, none⟩ = some (.pointer (some ⟨b, 0, none⟩))) :
    Calls Tryd.prog 27 #[.pointer (some ⟨b, 0, none⟩)] w fun e w' => e = .returned (.tuple #[]) ∧ w' = w := by
  obtain ⟨j, hj, _⟩ := Option.map_eq_some_iff.1 builder_info
  go_enter Tryd.func27, Tryd.ntmps27
  go_wp2
  rw [Lib.run_neq_ptr_same w _ Tryd.underlying38 hj]
  go_wp2
  go_end0
  exact ⟨rfl, rfl⟩

set_option maxHeartbeats 2000000 in
set_option maxRecDepth 100000 in
theorem write_used (B b : Nat) (s : ByteArray) (bs : List Value) (w : World) (h : Lib.BuilderAt 41 5 B b (.pointer (some ⟨b, 0, none⟩)) bs w) (hlen : s.size ≤ 1000000) (hbs : bs.length ≤ 100000000) (hBw : B ≤ w.heap.size) :
    Calls Tryd.prog 14 #[.pointer (some ⟨b, 0, none⟩), .string s] w fun e w' => e = .returned (.tuple #[.int .i64 s.size, .nilIface]) ∧ (Lib.BuilderAt 41 5 B b (.pointer (some ⟨b, 0, none⟩)) (bs ++ Lib.strCells s) w' ∧ Below B w w') := by
  obtain ⟨i0, hi, hz0, hz1, hz2⟩ := info_parts byte_info
  have HC := Lib.hid (check_used b w h.cell0)
  have HU := Lib.hid h
  clear h
  go_enter Tryd.func14, Tryd.ntmps14
  go_wp2_with fail
  refine HC.out.mono ?_
  rintro e w1 ⟨rfl, hw1⟩
  subst hw1
  clear HC
  obtain ⟨hB, v, hbk, hown, hne⟩ := HU.out
  have hb1 : Below B w1 w1 := Below.refl _ _
  have c0 : w1.cell? ⟨b, 0, none⟩ = some (.pointer (some ⟨b, 0, none⟩)) := by rw [Lib.cell_of_heap hbk]; rfl
  have c1 : w1.cell? ⟨b, 1, none⟩ = some v := by rw [Lib.cell_of_heap hbk]; rfl
  go_wp2_with (at_builtin; refine Lib.wpList_append_own_string _ rfl _ _ 39 9 rfl B 5 i0 Tryd.underlying39 Tryd.underlying9 hi hz0 hz1 hz2 _ _ _ rfl hown s rfl ?c3 ?c4 ?c5 ?_)
  case c3 => unfold maxLen; omega
  case c4 => omega
  case c5 => exact hBw
  intro v' w2 hown' hgrow _
  have hlt : b < w1.heap.size := by
    rcases Nat.lt_or_ge b w1.heap.size with h' | h'
    · exact h'
    · simp [Array.getElem?_eq_none h'] at hbk
  have hb2 : w2.heap[b]? = some (.cells #[.pointer (some ⟨b, 0, none⟩), v] 41 (0, 0)) := by
    rw [hgrow.block b hlt (fun e => hne e.symm)]
    exact hbk
  have d0 : w2.cell? ⟨b, 0, none⟩ = some (.pointer (some ⟨b, 0, none⟩)) := by rw [Lib.cell_of_heap hb2]; rfl
  have d1 : w2.cell? ⟨b, 1, none⟩ = some v := by rw [Lib.cell_of_heap hb2]; rfl
  have f1 : w2.frozen? ⟨b, 1, none⟩ = false := Lib.frozen_of_heap hb2 1
  obtain ⟨ao, n', cap, rfl⟩ : ∃ ao n' cap, v' = .slice ao n' cap := by
    rcases hown'.2 with ⟨hv, _⟩ | ⟨g, cap, cur, hv, _⟩
    · exact ⟨_, _, _, hv⟩
    · exact ⟨_, _, _, hv⟩
  go_wp2
  go_ret2
  refine ⟨rfl, ?_, ?_⟩
  · exact Lib.BuilderAt.put (T := 41) (e := 5) hB hb2 (bs' := bs ++ Lib.strCells s) (by simpa [Lib.strCells_length] using hown') (by decide)
  · exact (hb1.grown hgrow (by have := hb1.size; omega) (fun k hk => (hown.lt k hk).1)).setCell (p := ⟨b, 1, none⟩) hB _

end Go.Proofs.YtgioknppnfencaaDoor

/- The document's Right. -/
namespace Go.Proofs.YtgioknppnfencaaDoor
open Go.RowKit

set_option maxRecDepth 100000 in
set_option maxHeartbeats 1000000 in
theorem rright_any (A : Option Addr) (n c : Nat) (xs : List Rw) (hn : n ≤ 1000000) (hf : ∀ x ∈ xs, x.t.length ≤ maxLen) (w : World) (h : Recs w w.heap.size A n xs) :
    Calls Tryd.prog 20 #[.slice A n c] w fun e w' => Tells (RightP xs) e ∧ Below w.heap.size w w' := by
  have HL : Hid (xs.length = n) := h.len
  have H1 := Lib.hid h
  have HF := Lib.hid hf
  clear h hf
  go_enter Tryd.func20, Tryd.ntmps20
  go_wp2
  go_loopw [3] (fun idx wr => RtRel n xs w idx wr) (fun idx _ => n - (intOf idx).toNat)
  case atStart => exact ⟨0, by omega, rfl, ⟨by simp [Up], by simp⟩, Below.refl _ _⟩
  case round =>
    obtain ⟨i, hi, rfl, hrt, hb⟩ := hrel
    have HRT := Lib.hid hrt
    have HBR := Lib.hid hb
    clear hrt
    by_cases hlt : i < n
    · obtain ⟨x, hx⟩ : ∃ x, xs[i]? = some x := ⟨_, List.getElem?_eq_getElem (by rw [HL.out]; exact hlt)⟩
      have hm := List.mem_of_getElem? hx
      have hrec := (H1.out.below hb).1
      obtain ⟨ad, rfl, _, k0, k1, k2, k3, k4, k5, k6⟩ := recs_cells hrec i x hx
      have hi0 : (0 : Int) ≤ (i : Int) := by omega
      have hi1 : (i : Int) < (n : Int) := by omega
      have hfx := HF.out x hm
      by_cases hk : x.r.kind = 1
      · by_cases h0 : i = 0
        · have HOK : Hid (RightP (xs.take (i + 1))) := right_one hx HRT.out hk ((up_snoc hx).2 ⟨by subst h0; simp [Up], by subst h0; simp⟩)
          have d1 : decide ((i : Int) > 0) = false := decide_eq_false (by omega)
          have d2 : decide (0 < i) = false := decide_eq_false (by omega)
          obtain ⟨⟨k, t, u, o, m, g⟩, A4, n4, c4, l4⟩ := x
          simp only at hk
          subst hk
          simp only at k0 k1 k2 k3 k4 k5 k6
          clear hx hm hb hrec h0 hfx
          go_wp2
          go_quiet (fail)
          go_wp2
          exact ⟨⟨i + 1, by omega, by go_num, HOK.out, below_drewN2 HBR.out _⟩, by simp [intOf]; omega⟩
        · obtain ⟨j, rfl⟩ : ∃ j, i = j + 1 := ⟨i - 1, by omega⟩
          obtain ⟨y, hy⟩ : ∃ y, xs[j]? = some y := ⟨_, List.getElem?_eq_getElem (by rw [HL.out]; omega)⟩
          obtain ⟨ad2, e2, hadb, _, j1, _⟩ := recs_cells hrec j y hy
          obtain rfl : ad = ad2 := by injection e2
          have hw : IntKind.i64.wrap (((j + 1 : Nat) : Int) - 1) = (j : Int) := by rw [wrap_small (by omega) (by omega)]; omega
          have hw2 : IntKind.i64.wrap ((j : Int) + 1 - 1) = (j : Int) := by rw [wrap_small (by omega) (by omega)]; omega
          have hj1 : (j : Int) < (n : Int) := by omega
          have HLS := Lib.hid (fun W => less_any y.t x.t (HF.out y (List.mem_of_getElem? hy)) hfx W)
          have HUL := Lib.hid (up_last hx hy HRT.out.1)
          unfold rsv at HLS
          by_cases hlt2 : y.t < x.t
          · have HOK : Hid (RightP (xs.take (j + 1 + 1))) := right_one hx HRT.out hk (HUL.out.2 hlt2)
            rw [decide_eq_true hlt2] at HLS
            obtain ⟨⟨k, t, u, o, m, g⟩, A4, n4, c4, l4⟩ := x
            unfold Rw.t at HLS
            simp only at hk
            subst hk
            simp only at k0 k1 k2 k3 k4 k5 k6 HLS
            generalize y.r.target = v at *
            clear hx hm hb hrec hy hlt2 HUL hfx
            go_wp2
            go_quiet ((go_at_call 37; exact Calls.quiet_of (HLS.out _)))
            go_wp2
            exact ⟨⟨j + 1 + 1, by omega, by go_num, HOK.out, below_drewN2 HBR.out _⟩, by simp [intOf]; omega⟩
          · have HNO : Hid (¬ RightP xs) := fun h => hlt2 (HUL.out.1 (up_take h.1 _))
            rw [decide_eq_false hlt2] at HLS
            obtain ⟨⟨k, t, u, o, m, g⟩, A4, n4, c4, l4⟩ := x
            unfold Rw.t at HLS
            simp only at hk
            subst hk
            simp only at k0 k1 k2 k3 k4 k5 k6 HLS
            generalize y.r.target = v at *
            clear hx hm hb hrec hy hlt2 HUL hfx
            go_wp2
            go_quiet ((go_at_call 37; exact Calls.quiet_of (HLS.out _)))
            go_wp2
            go_ret
            exact ⟨tells_false HNO.out, below_drewN2 HBR.out _⟩
      · have HNO : Hid (¬ RightP xs) := fun h => hk (h.2 x hm)
        have d0 : (x.r.kind != 1) = true := by rw [bne_iff_ne]; exact hk
        obtain ⟨⟨k, t, u, o, m, g⟩, A4, n4, c4, l4⟩ := x
        simp only at k0 k1 k2 k3 k4 k5 k6 d0
        clear hx hm hb hrec hk hfx
        go_wp2
        go_quiet (fail)
        go_wp2
        go_ret
        exact ⟨tells_false HNO.out, below_drewN2 HBR.out _⟩
    · obtain rfl : i = n := by omega
      rw [List.take_of_length_le (by rw [HL.out]; omega)] at HRT
      clear hb
      go_wp2
      go_ret
      exact ⟨tells_true HRT.out, HBR.out⟩

end Go.Proofs.YtgioknppnfencaaDoor

/- dump.Text and the document's, of any records. -/
namespace Go.Proofs.YtgioknppnfencaaDoor
open Go.RowKit

set_option maxRecDepth 100000 in
set_option maxHeartbeats 4000000 in
theorem dtext_any (A : Option Addr) (n c : Nat) (xs : List Rw) (hn : n ≤ 30) (hg : ∀ x ∈ xs, LGood x) (w : World) (hl : Laid w) (hp : PowTab w) (h : Recs w w.heap.size A n xs) :
    Calls Tryd.prog 7 #[.slice A n c] w fun e w' => AnsT xs e ∧ Below w.heap.size w w' := by
  have HL : Hid (xs.length = n) := h.len
  have HRC := Lib.hid h
  have HG := Lib.hid hg
  have HLAID := Lib.hid hl
  have HPOW := Lib.hid hp
  have HR := Lib.hid (right_any A n c xs (by omega) w h)
  by_cases hr : RightP xs
  · have HRP := Lib.hid hr
    have HIT := Lib.hid (fun W => Tryd.strconv_Itoa_small n (by omega) W)
    have HJN := Lib.hid (fun (W : World) => ejoin_two [116, 101, 112, 104, 114, 97] (Lib.decDigits n) (by simp) (by have := dec_small2 (show n < 100 by omega); omega) W)
    have hadd := Lib.hid (fun W => add_tx (P := Tryd.prog) W ([116, 101, 112, 104, 114, 97] ++ 32 :: Lib.decDigits n) [10] (by have := dec_small2 (show n < 100 by omega); simp; omega))
    have HHD : Hid (([116, 101, 112, 104, 114, 97] ++ 32 :: Lib.decDigits n) ++ [10] = hdT n) := rfl
    rw [HHD.out] at hadd
    have HHL : Hid ((hdT n).length ≤ 10) := hd_len (by omega)
    have HLN : Hid (∀ i, i ≤ n → (lnsT (xs.take i)).length ≤ 30 * 260001) := fun i hi => Nat.le_trans (lns_len (fun x hx => Nat.succ_le_succ (ln_len (hg x hx))) i) (Nat.mul_le_mul_right _ (by omega))
    have HCM := Lib.hid cells_more
    have HC0 : Hid (Lib.strCells (tx (hdT n)) = Lib.byteCells (hdT n)) := rfl
    have hc0 : (⟨(Lib.decDigits n).toArray⟩ : ByteArray) = tx (Lib.decDigits n) := rfl
    rw [hc0] at HIT
    obtain ⟨q1, hq1⟩ : ∃ q, q = tx ([116, 101, 112, 104, 114, 97] ++ 32 :: Lib.decDigits n) := ⟨_, rfl⟩
    obtain ⟨q0, hq0⟩ : ∃ q, q = tx (Lib.decDigits n) := ⟨_, rfl⟩
    obtain ⟨q2, hq2⟩ : ∃ q, q = tx (hdT n) := ⟨_, rfl⟩
    have ht6 : tx [116, 101, 112, 104, 114, 97] = { data := #[116, 101, 112, 104, 114, 97] } := rfl
    have ht10 : tx [10] = { data := #[10] } := rfl
    rw [← hq1, ← hq2, ht10] at hadd
    rw [← hq0] at HIT
    rw [← hq1, ← hq0, ht6] at HJN
    have HQ2 : Hid (q2.size ≤ 1000000) := by show _ ≤ _; rw [hq2, tx_size]; have := HHL.out; omega
    rw [← hq2] at HC0
    have hadd2 := hadd.out
    clear h hg hl hp hr hq1 hq0 hq2 ht6 ht10 hc0 hadd
    go_enter Tryd.func7, Tryd.ntmps7
    go_wp2_with fail
    refine HR.out.mono ?_
    rintro e w1 ⟨he, hb1⟩
    obtain rfl := he.yes HRP.out
    have HB1 := Lib.hid hb1
    clear hb1 he
    go_wp2_with fail
    refine (HIT.out _).mono ?_
    rintro e w2 ⟨rfl, hw2⟩
    subst hw2
    have HB2 : Hid (Below w.heap.size w (w1.alloc (.cells #[.pointer none, .slice none 0 0] 41))) := HB1.out.alloc HB1.out.size _
    have HF := Lib.hid (fresh_builder w1)
    have HSB : Hid (w.heap.size ≤ w1.heap.size) := HB1.out.size
    obtain ⟨b, hb⟩ : ∃ b, b = w1.heap.size := ⟨_, rfl⟩
    rw [← hb] at HF HSB ⊢
    obtain ⟨w2, hw2⟩ : ∃ x, x = w1.alloc (.cells #[.pointer none, .slice none 0 0] 41) := ⟨_, rfl⟩
    rw [← hw2] at HB2 HF ⊢
    clear hb hw2
    go_wp2_with fail
    refine (HJN.out w2).mono ?_
    rintro e w3 ⟨rfl, hb3⟩
    have HF3 := Lib.hid (builder_below HF.out hb3)
    have HB3 := Lib.hid (HB2.out.trans (hb3.mono HB2.out.size))
    have HSB3 : Hid (b ≤ w3.heap.size) := Nat.le_of_lt (HF3.out.lt)
    clear hb3
    go_wp2_with fail
    refine (write_fresh b b q2 w3 HF3.out HQ2.out HSB3.out).mono ?_
    rintro e w4 ⟨rfl, hb4, hw4⟩
    rw [HC0.out] at hb4
    have HF4 := Lib.hid hb4
    have HB4 := Lib.hid (HB3.out.trans (hw4.mono HSB.out))
    clear hb4 hw4
    go_wp2
    go_loopw [21] (fun v wr => ∃ i : Nat, i ≤ n ∧ v = .int .i64 (i : Int) ∧ Lib.BuilderAt 41 5 b b (.pointer (some ⟨b, 0, none⟩)) (Lib.byteCells (hdT n ++ lnsT (xs.take i))) wr ∧ (∀ y ∈ xs.take i, lnOk y) ∧ Below w.heap.size w wr) (fun v _ => n - (intOf v).toNat)
    case atStart => exact ⟨0, by omega, rfl, by simpa [lnsT] using HF4.out, by simp, HB4.out⟩
    case round =>
      obtain ⟨i, hi, rfl, hbu, hok, hb⟩ := hrel
      have HBU := Lib.hid hbu
      have HOK := Lib.hid hok
      have HB := Lib.hid hb
      by_cases hlt : i < n
      · obtain ⟨x, hx⟩ : ∃ x, xs[i]? = some x := ⟨_, List.getElem?_eq_getElem (by rw [HL.out]; exact hlt)⟩
        have hmx := List.mem_of_getElem? hx
        obtain ⟨ad, rfl, hab, k0, k1, k2, k3, k4, k5, k6⟩ := recs_cells (HRC.out.below hb).1 i x hx
        have HRX := Lib.hid (show Reads w w.heap.size 3 x.A x.n (dps x.l) from (HRC.out.2 x hmx).1)
        have HLX := Lib.hid (fun (W : World) (hb : Below w.heap.size w W) => ln_any x (HG.out x hmx) W (HPOW.out.below hb) ((HRX.out.below hb).more hb.size))
        have HTL : Hid ((lnT x).length ≤ 260000) := ln_len (HG.out x hmx)
        have HST := Lib.hid (ok_step hx hok)
        have HNO : Hid (¬ lnOk x → ¬ OkT xs) := fun h h2 => h (h2.2 x hmx)
        have HSN := Lib.hid (lns_snoc hx)
        have hadd := fun W => add_tx (P := Tryd.prog) W (lnT x) [10] (by have := HTL.out; simp; omega)
        obtain ⟨⟨k, t, u, o, m, g⟩, xA, xn, xc, xl⟩ := x
        simp only at k0 k1 k2 k3 k4 k5 k6 HLX
        obtain ⟨T, hT⟩ : ∃ T, T = lnT (⟨⟨k, t, u, o, m, g⟩, xA, xn, xc, xl⟩ : Rw) := ⟨_, rfl⟩
        rw [← hT] at HLX HTL HSN hadd
        have ht10 : tx [10] = { data := #[10] } := rfl
        rw [ht10] at hadd
        have HNEW := Lib.hid (one_new wr (.cells #[.int .i64 k, .string (tx t), .int .u64 u, .slice xA xn xc, .int .u64 o, .int .u64 m, .string (tx g)] 35))
        have HAL : Hid (Below wr.heap.size wr (wr.alloc (.cells #[.int .i64 k, .string (tx t), .int .u64 u, .slice xA xn xc, .int .u64 o, .int .u64 m, .string (tx g)] 35))) := (Below.refl _ _).alloc (Nat.le_refl _) _
        have HB5 := Lib.hid (HB.out.trans (HAL.out.mono HB.out.size))
        have HBU5 := Lib.hid (builder_below HBU.out HAL.out)
        have hi0 : (0 : Int) ≤ (i : Int) := by omega
        have hi1 : (i : Int) < (n : Int) := by omega
        have HI : Hid (i < n) := hlt
        have p0 := at_cell (i := 0) HNEW.out rfl
        have p1 := at_cell (i := 1) HNEW.out rfl
        have p2 := at_cell (i := 2) HNEW.out rfl
        have p3 := at_cell (i := 3) HNEW.out rfl
        have p4 := at_cell (i := 4) HNEW.out rfl
        have p5 := at_cell (i := 5) HNEW.out rfl
        have p6 := at_cell (i := 6) HNEW.out rfl
        have hs2 : (tx T).size = T.length := tx_size T
        obtain ⟨sT, hsT⟩ : ∃ sT, sT = tx T := ⟨_, rfl⟩
        obtain ⟨sU, hsU⟩ : ∃ sU, sU = tx (T ++ [10]) := ⟨_, rfl⟩
        rw [← hsU] at hadd
        rw [← hsT] at HLX hadd
        have HSU := Lib.hid hsU
        clear hmx hx hbu hok hb hlt hT ht10 hs2 hsT hsU
        generalize tx t = st at *
        generalize tx g = sg at *
        go_wp2_with fail
        refine (HLX.out _ HB5.out).mono ?_
        rintro e w6 ⟨hor, hb6⟩
        have HB6 := Lib.hid (HB5.out.trans (hb6.mono HB5.out.size))
        have HBU6 := Lib.hid (builder_below HBU5.out hb6)
        clear hb6
        rcases hor with ⟨hyes, rfl⟩ | ⟨hno, rfl⟩
        · have HYES := Lib.hid hyes
          have hln := Lib.hid (HLN.out i hi)
          have hsz : sU.size ≤ 1000000 := by rw [HSU.out, tx_size, List.length_append]; have := HTL.out; simp; omega
          have hbl : (Lib.byteCells (hdT n ++ lnsT (xs.take i))).length ≤ 100000000 := by rw [Lib.byteCells_length, List.length_append]; have := HHL.out; have := hln.out; omega
          have HW := Lib.hid (write_used b b sU _ w6 HBU6.out hsz hbl (Nat.le_of_lt HBU6.out.lt))
          clear hyes hsz hbl
          go_wp2_with fail
          refine HW.out.mono ?_
          rintro e w7 ⟨rfl, hbu7, hb7⟩
          rw [HSU.out, HCM.out, List.append_assoc, ← HSN.out] at hbu7
          have HBU7 := Lib.hid hbu7
          have HB7 := Lib.hid (HB6.out.trans (hb7.mono HSB.out))
          clear hbu7 hb7
          go_wp2
          exact ⟨⟨i + 1, HI.out, by go_num, HBU7.out, HST.out HYES.out, HB7.out⟩, by have := HI.out; simp [intOf]; omega⟩
        · have HANS := Lib.hid (HNO.out hno)
          clear hno
          go_wp2
          go_ret2
          exact ⟨.inr ⟨HANS.out, rfl⟩, HB6.out⟩
      · obtain rfl : i = n := by omega
        have hall := hok
        rw [List.take_of_length_le (by rw [HL.out]; exact Nat.le_refl _)] at hall HBU
        have HANS : Hid (OkT xs) := ⟨HRP.out, hall⟩
        have HTX : Hid (hdT i ++ lnsT xs = txt xs) := by show _ = _; unfold txt; rw [HL.out]
        have hlen : (txt xs).length ≤ 100000000 := by
          rw [← HTX.out, List.length_append]
          have h1 := HLN.out i (Nat.le_refl _)
          rw [List.take_of_length_le (by rw [HL.out]; exact Nat.le_refl _)] at h1
          have := HHL.out
          omega
        rw [HTX.out] at HBU
        have HST := Lib.hid (Tryd.Builder_String_any b b (txt xs) wr (.inr HBU.out) (Nat.le_of_lt HBU.out.lt))
        have HSE := Lib.hid (fun W (hW : Laid W) => sealed_any (txt xs) hlen W hW)
        obtain ⟨sT, hsT⟩ : ∃ sT, sT = tx (txt xs) := ⟨_, rfl⟩
        obtain ⟨sU, hsU⟩ : ∃ sU, sU = tx (seald (txt xs)) := ⟨_, rfl⟩
        have hsT2 : (⟨(txt xs).toArray⟩ : ByteArray) = sT := hsT.symm
        have HSU := Lib.hid hsU
        clear hbu hok hb hlt hall hlen HBU
        go_wp2_with fail
        refine HST.out.mono ?_
        rintro e w5 ⟨rfl, hb5⟩
        have HB5 := Lib.hid (HB.out.trans (hb5.mono HSB.out))
        clear hb5
        go_wp2_with fail
        refine (HSE.out _ (HLAID.out.below HB5.out)).mono ?_
        rintro e w6 ⟨rfl, hb6⟩
        have HB6 := Lib.hid (HB5.out.trans (hb6.mono HB5.out.size))
        clear hb6
        rw [← HSU.out]
        go_wp2
        go_ret2
        exact ⟨.inl ⟨HANS.out, by rw [← HSU.out]; rfl⟩, HB6.out⟩
  · have HRP := Lib.hid hr
    clear h hg hl hp hr
    go_enter Tryd.func7, Tryd.ntmps7
    go_wp2_with fail
    refine HR.out.mono ?_
    rintro e w1 ⟨he, hb1⟩
    obtain rfl := he.no HRP.out
    have HB1 := Lib.hid hb1
    clear hb1 he
    go_wp2
    go_ret2
    exact ⟨.inr ⟨fun h => HRP.out h.1, rfl⟩, HB1.out⟩

set_option maxRecDepth 100000 in
set_option maxHeartbeats 4000000 in
theorem rtext_any (A : Option Addr) (n c : Nat) (xs : List Rw) (hn : n ≤ 30) (hg : ∀ x ∈ xs, LGood x) (w : World) (h : Recs w w.heap.size A n xs) :
    Calls Tryd.prog 8 #[.slice A n c] w fun e w' => AnsT xs e ∧ Below w.heap.size w w' := by
  have HL : Hid (xs.length = n) := h.len
  have HRC := Lib.hid h
  have HG := Lib.hid hg
  have HR := Lib.hid (rright_any A n c xs (by omega) (fun x hx => (hg x hx).1.1) w h)
  by_cases hr : RightP xs
  · have HRP := Lib.hid hr
    have HDG := Lib.hid (fun W => digits_any n (by omega) W)
    have hd2 := dec_small2 (show n < 100 by omega)
    have hadd1 := fun W => add_tx (P := Tryd.prog) W [116, 101, 112, 104, 114, 97, 32] (Lib.decDigits n) (by simp; omega)
    have hadd2 := fun W => add_tx (P := Tryd.prog) W ([116, 101, 112, 104, 114, 97, 32] ++ Lib.decDigits n) [10] (by simp; omega)
    have HHD : Hid (([116, 101, 112, 104, 114, 97, 32] ++ Lib.decDigits n) ++ [10] = hdT n) := rfl
    rw [HHD.out] at hadd2
    have HHL : Hid ((hdT n).length ≤ 10) := hd_len (by omega)
    have HLN : Hid (∀ i, i ≤ n → (lnsT (xs.take i)).length ≤ 30 * 260001) := fun i hi => Nat.le_trans (lns_len (fun x hx => Nat.succ_le_succ (ln_len (hg x hx))) i) (Nat.mul_le_mul_right _ (by omega))
    have ht7 : tx [116, 101, 112, 104, 114, 97, 32] = { data := #[116, 101, 112, 104, 114, 97, 32] } := rfl
    have ht10 : tx [10] = { data := #[10] } := rfl
    rw [ht7] at hadd1
    rw [ht10] at hadd2
    have hw : IntKind.u64.wrap (n : Int) = (n : Int) := wrap_n n (by omega)
    generalize tx ([116, 101, 112, 104, 114, 97, 32] ++ Lib.decDigits n) = q1 at *
    generalize tx (Lib.decDigits n) = q0 at *
    clear h hg hr ht7 ht10
    go_enter Tryd.func8, Tryd.ntmps8
    go_wp2_with fail
    refine HR.out.mono ?_
    rintro e w1 ⟨he, hb1⟩
    obtain rfl := he.yes HRP.out
    have HB1 := Lib.hid hb1
    clear hb1 he
    go_wp2_with fail
    refine (HDG.out _).mono ?_
    rintro e w2 ⟨rfl, rfl⟩
    go_wp2
    clear hadd1 hadd2
    go_loopw [4, 5] (fun v4 v5 wr => ∃ i : Nat, i ≤ n ∧ v5 = .int .i64 (i : Int) ∧ v4 = .string (tx (hdT n ++ lnsT (xs.take i))) ∧ (∀ y ∈ xs.take i, lnOk y) ∧ Below w.heap.size w wr) (fun _ v5 _ => n - (intOf v5).toNat)
    case atStart => exact ⟨0, by omega, rfl, by simp [lnsT], by simp, HB1.out⟩
    case round =>
      obtain ⟨i, hi, rfl, rfl, hok, hb⟩ := hrel
      have HOK := Lib.hid hok
      have HB := Lib.hid hb
      by_cases hlt : i < n
      · obtain ⟨x, hx⟩ : ∃ x, xs[i]? = some x := ⟨_, List.getElem?_eq_getElem (by rw [HL.out]; exact hlt)⟩
        have hmx := List.mem_of_getElem? hx
        obtain ⟨ad, rfl, hab, k0, k1, k2, k3, k4, k5, k6⟩ := recs_cells (HRC.out.below hb).1 i x hx
        have HRX := Lib.hid (show Reads w w.heap.size 3 x.A x.n (dps x.l) from (HRC.out.2 x hmx).1)
        have HLX := Lib.hid (rln_any x (HG.out x hmx) wr ((HRX.out.below hb).more hb.size))
        have HTL : Hid ((lnT x).length ≤ 260000) := ln_len (HG.out x hmx)
        have HST := Lib.hid (ok_step hx hok)
        have HNO : Hid (¬ lnOk x → ¬ OkT xs) := fun h h2 => h (h2.2 x hmx)
        have HSN := Lib.hid (lns_snoc hx)
        have hlen := HLN.out i hi
        have hadd1 := fun W => add_tx (P := Tryd.prog) W (hdT n ++ lnsT (xs.take i)) (lnT x) (by rw [List.length_append]; have := HTL.out; have := HHL.out; omega)
        have hadd2 := fun W => add_tx (P := Tryd.prog) W ((hdT n ++ lnsT (xs.take i)) ++ lnT x) [10] (by rw [List.length_append, List.length_append]; have := HTL.out; have := HHL.out; simp; omega)
        have e2 : ((hdT n ++ lnsT (xs.take i)) ++ lnT x) ++ [10] = hdT n ++ lnsT (xs.take (i + 1)) := by rw [HSN.out]; simp
        rw [e2] at hadd2
        obtain ⟨⟨k, t, u, o, m, g⟩, xA, xn, xc, xl⟩ := x
        simp only at k0 k1 k2 k3 k4 k5 k6 HLX
        have ht10 : tx [10] = { data := #[10] } := rfl
        rw [ht10] at hadd2
        have hi0 : (0 : Int) ≤ (i : Int) := by omega
        have hi1 : (i : Int) < (n : Int) := by omega
        have HI : Hid (i < n) := hlt
        obtain ⟨s0, hs0⟩ : ∃ s, s = tx (hdT n ++ lnsT (xs.take i)) := ⟨_, rfl⟩
        obtain ⟨s1, hs1⟩ : ∃ s, s = tx (hdT n ++ lnsT (xs.take (i + 1))) := ⟨_, rfl⟩
        have HS1 := Lib.hid hs1
        rw [← hs0] at hadd1 ⊢
        rw [← hs1] at hadd2
        generalize tx (hdT n ++ lnsT (xs.take i) ++ lnT (⟨⟨k, t, u, o, m, g⟩, xA, xn, xc, xl⟩ : Rw)) = s2 at *
        generalize tx (lnT (⟨⟨k, t, u, o, m, g⟩, xA, xn, xc, xl⟩ : Rw)) = s3 at *
        clear hmx hx hok hb hlt ht10 hs0 hs1 e2 hlen
        generalize tx t = st at *
        generalize tx g = sg at *
        go_wp2_with fail
        refine HLX.out.mono ?_
        rintro e w6 ⟨hor, hb6⟩
        have HB6 := Lib.hid (HB.out.trans (hb6.mono HB.out.size))
        clear hb6
        rcases hor with ⟨hyes, rfl⟩ | ⟨hno, rfl⟩
        · have HYES := Lib.hid hyes
          clear hyes
          go_wp2
          exact ⟨⟨i + 1, HI.out, by go_num, by rw [HS1.out], HST.out HYES.out, HB6.out⟩, by have := HI.out; simp [intOf]; omega⟩
        · have HANS := Lib.hid (HNO.out hno)
          clear hno
          go_wp2
          go_ret2
          exact ⟨.inr ⟨HANS.out, rfl⟩, HB6.out⟩
      · obtain rfl : i = n := by omega
        have hall := hok
        rw [List.take_of_length_le (by rw [HL.out]; exact Nat.le_refl _)] at hall ⊢
        have HANS : Hid (OkT xs) := ⟨HRP.out, hall⟩
        have HTX : Hid (hdT i ++ lnsT xs = txt xs) := by show _ = _; unfold txt; rw [HL.out]
        have hlen : (txt xs).length ≤ 100000000 := by
          rw [← HTX.out, List.length_append]
          have h1 := HLN.out i (Nat.le_refl _)
          rw [List.take_of_length_le (by rw [HL.out]; exact Nat.le_refl _)] at h1
          have := HHL.out
          omega
        rw [HTX.out]
        have HSE := Lib.hid (fun W => rsealed_any (txt xs) hlen W)
        obtain ⟨sT, hsT⟩ : ∃ sT, sT = tx (txt xs) := ⟨_, rfl⟩
        obtain ⟨sU, hsU⟩ : ∃ sU, sU = tx (seald (txt xs)) := ⟨_, rfl⟩
        have HSU := Lib.hid hsU
        rw [← hsT] at HSE ⊢
        rw [← hsU] at HSE
        clear hok hb hlt hall hlen hsT hsU
        go_wp2_with fail
        refine (HSE.out _).mono ?_
        rintro e w6 ⟨rfl, rfl⟩
        go_wp2
        go_ret2
        exact ⟨.inl ⟨HANS.out, by rw [← HSU.out]; rfl⟩, HB.out⟩
  · have HRP := Lib.hid hr
    clear h hg hr
    go_enter Tryd.func8, Tryd.ntmps8
    go_wp2_with fail
    refine HR.out.mono ?_
    rintro e w1 ⟨he, hb1⟩
    obtain rfl := he.no HRP.out
    have HB1 := Lib.hid hb1
    clear hb1 he
    go_wp2
    go_ret2
    exact ⟨.inr ⟨fun h => HRP.out h.1, rfl⟩, HB1.out⟩

end Go.Proofs.YtgioknppnfencaaDoor

/- A fold, record by record; what texts and records are. -/
namespace Go.Proofs.YtgioknppnfencaaDoor
open Go.RowKit

theorem fo_snoc {xs : List Rw} {i : Nat} {x : Rw} (hx : xs[i]? = some x) : fo Rw.k Rw.t (xs.take (i + 1)) = put1 Rw.k Rw.t (fo Rw.k Rw.t (xs.take i)) x := by
  unfold fo
  rw [List.take_add_one, hx, List.foldl_append]
  rfl
theorem gtinfo : (Tryd.prog.info? 9).map (fun i => (i.zero, i.size, i.bytes)) = some (some (.string ⟨#[]⟩), 1, 16) := by kernel_rfl
theorem grinfo : (Tryd.prog.info? 35).map (fun i => (i.zero, i.size, i.bytes)) = some (some (.agg #[.int .i64 0, .string { data := #[] }, .int .u64 0, .slice none 0 0, .int .u64 0, .int .u64 0, .string { data := #[] }]), 7, 88) := by kernel_rfl

end Go.Proofs.YtgioknppnfencaaDoor

/- The document's Put, of a state and a record. -/
namespace Go.Proofs.YtgioknppnfencaaDoor
open Go.RowKit

/-- Behind Put's head: its own row, the box of its record, and all else as it was. -/
def PutI (w : World) (x : Rw) (wr : World) (va : Value) (zs : List Rw) : Prop :=
  wr.ownsRow (w.heap.size + 1) 35 7 va zs.length (rws zs) ∧ wr.heap[w.heap.size]? = some (.cells #[.int .i64 x.r.kind, .string (tx x.r.target), .int .u64 x.r.rule, .slice x.A x.n x.c, .int .u64 x.r.out, .int .u64 x.r.time, .string (tx x.r.tag)] 35 (0, 0)) ∧ Below w.heap.size w wr
theorem PutI.base {w wr : World} {x : Rw} {va : Value} {zs : List Rw} (h : PutI w x wr va zs) : w.heap.size + 1 ≤ wr.heap.size := by
  have := (Array.getElem?_eq_some_iff.1 h.2.1).1
  omega
theorem PutI.drewN {w wr : World} {x : Rw} {va : Value} {zs : List Rw} (h : PutI w x wr va zs) (q : Nat) : PutI w x (wr.drewN q) va zs := ⟨h.1, h.2.1, below_drewN2 h.2.2 q⟩
theorem putI_more {w wr w6 : World} {x : Rw} {va v1 : Value} {zs : List Rw} (h : PutI w x wr va zs) (y : Rw) (ho : w6.ownsRow (w.heap.size + 1) 35 7 v1 (zs.length + 1) (rws zs ++ rws [y]))
    (hg : (wr.alloc (.cells #[.int .i64 y.r.kind, .string (tx y.r.target), .int .u64 y.r.rule, .slice y.A y.n y.c, .int .u64 y.r.out, .int .u64 y.r.time, .string (tx y.r.tag)] 35)).grownBy w6 va.ownBlock) : PutI w x w6 v1 (zs ++ [y]) := by
  have hb := h.base
  have ho1 := own_block h.1
  refine ⟨?_, ?_, ?_⟩
  · rw [← rws_app] at ho
    simpa using ho
  · refine (hg.block w.heap.size (by simp; omega) (fun e => ?_)).trans ((Below.heap_alloc _ _ _ (by omega)).trans h.2.1)
    have := ho1 _ e.symm
    omega
  · exact (h.2.2.alloc (by omega) _).grown hg (by simp; omega) (fun j hj => by have := ho1 j hj; omega)
theorem rput_cons_true (x s : Rw) (S : List Rw) : rput Rw.t x true (s :: S) = (if s.t ≠ x.t then [s] else []) ++ rput Rw.t x true S := by
  simp [rput]
theorem rput_cons_less {x s : Rw} (S : List Rw) (h : x.t < s.t) : rput Rw.t x false (s :: S) = x :: s :: rput Rw.t x true S := by
  have h2 : s.t ≠ x.t := fun e => lx_ne h e.symm
  simp [rput, h, h2]
theorem rput_cons_not {x s : Rw} (S : List Rw) (h : ¬ x.t < s.t) : rput Rw.t x false (s :: S) = (if s.t ≠ x.t then [s] else []) ++ rput Rw.t x false S := by
  simp [rput, h]
theorem gempty7 (w : World) (b : Nat) (hb : b ≤ w.heap.size) : (w.alloc (.cells #[] 35)).ownsRow b 35 7 (.slice (some ⟨w.heap.size, 0, none⟩) 0 0) 0 (rws []) :=
  ⟨by simp [rws], .inr ⟨w.heap.size, 0, #[], rfl, hb, (by show (w.heap.push _)[w.heap.size]? = _; exact Array.getElem?_push_size), Nat.le_refl _, by unfold maxLen; omega, rfl, rfl⟩⟩

/-- What stands at a round of Put. -/
def PuRel (w : World) (x : Rw) (S P : List Rw) (n : Nat) (va vl idx : Value) (wr : World) : Prop :=
  ∃ (i : Nat) (zs : List Rw) (laid : Bool), i ≤ n ∧ idx = .int .i64 (i : Int) ∧ vl = .bool laid ∧ zs ++ rput Rw.t x laid (S.drop i) = P ∧ zs.length ≤ 2 * i ∧ PutI w x wr va zs

set_option maxRecDepth 100000 in
set_option maxHeartbeats 2000000 in
theorem refput_any (A : Option Addr) (n c : Nat) (S : List Rw) (x : Rw) (hn : n ≤ 100000) (hf : ∀ s ∈ S, s.t.length ≤ maxLen) (hx : x.t.length ≤ maxLen) (w : World) (h : Recs w w.heap.size A n S) (hr : Reads w w.heap.size 3 x.A x.n (dps x.l) ∧ (x.A = none → x.c = 0)) (hA : A = none → c = 0) :
    Calls Tryd.prog 24 #[.slice A n c, x.val] w fun e w' => ∃ A' c', e = .returned (.slice A' (put1 Rw.k Rw.t S x).length c') ∧ Recs w' w'.heap.size A' (put1 Rw.k Rw.t S x).length (put1 Rw.k Rw.t S x) ∧ (A' = none → c' = 0) ∧ Below w.heap.size w w' := by
  obtain ⟨i0, ii0, iz0, iz1, iz2⟩ := info_parts grinfo
  have hl0 : S.length = n := h.len
  have HL := Lib.hid hl0
  have H1 := Lib.hid h
  have HF := Lib.hid hf
  have HXF := Lib.hid hx
  have HEND : Hid (∀ (wr : World) (va : Value) (zs : List Rw), PutI w x wr va zs → zs = put1 Rw.k Rw.t S x → ∃ A' c', va = .slice A' (put1 Rw.k Rw.t S x).length c' ∧ Recs wr wr.heap.size A' (put1 Rw.k Rw.t S x).length (put1 Rw.k Rw.t S x) ∧ (A' = none → c' = 0) ∧ Below w.heap.size w wr) := fun wr va zs hp hz => by
    subst hz
    obtain ⟨A', c', rfl, hc⟩ := own_slice hp.1
    refine ⟨A', c', rfl, ⟨Reads.of_own hp.1, fun y hy => ?_⟩, hc, hp.2.2⟩
    rcases put1_mem hy with ⟨rfl, _⟩ | hy
    · exact ⟨(hr.1.below hp.2.2).more hp.2.2.size, hr.2⟩
    · exact ⟨((h.2 y hy).1.below hp.2.2).more hp.2.2.size, (h.2 y hy).2⟩
  by_cases hk1 : x.r.kind = 1
  · have hP : ([] : List Rw) ++ rput Rw.t x false (S.drop 0) = put1 Rw.k Rw.t S x := by
      unfold put1
      rw [if_pos (show x.k = 1 from hk1)]
      rfl
    generalize put1 Rw.k Rw.t S x = P at *
    have HP := Lib.hid hP
    obtain ⟨⟨k, t, u, o, m, g⟩, A4, n4, c4, l4⟩ := x
    simp only at hk1
    subst hk1
    unfold Rw.val rcv rsv
    unfold Rw.t at HXF
    simp only at HXF ⊢
    obtain ⟨h00, h01, hsz⟩ := two_new w (.cells #[.int .i64 1, .string (tx t), .int .u64 u, .slice A4 n4 c4, .int .u64 o, .int .u64 m, .string (tx g)] 35) (.cells #[] 35)
    have HPI0 : Hid (PutI w ⟨⟨1, t, u, o, m, g⟩, A4, n4, c4, l4⟩ ((w.alloc (.cells #[.int .i64 1, .string (tx t), .int .u64 u, .slice A4 n4 c4, .int .u64 o, .int .u64 m, .string (tx g)] 35)).alloc (.cells #[] 35)) (.slice (some ⟨w.heap.size + 1, 0, none⟩) 0 0) []) :=
      ⟨(by have := gempty7 (w.alloc (.cells #[.int .i64 1, .string (tx t), .int .u64 u, .slice A4 n4 c4, .int .u64 o, .int .u64 m, .string (tx g)] 35)) (w.heap.size + 1) (by simp); simpa using this), h00, ((Below.refl _ w).alloc (Nat.le_refl _) _).alloc (by simp) _⟩
    have b0 := one_new w (.cells #[.int .i64 1, .string (tx t), .int .u64 u, .slice A4 n4 c4, .int .u64 o, .int .u64 m, .string (tx g)] 35)
    have a0 := at_cell (i := 0) b0 rfl
    have c0 := at_cell (i := 0) h00 rfl
    clear h hf hx hr hA hP hl0 h00 h01 hsz b0
    have hkk : True := trivial
    clear hkk
    go_enter Tryd.func24, Tryd.ntmps24
    go_wp2
    go_loopw [5, 6, 7] (fun va vl idx wr => PuRel w ⟨⟨1, t, u, o, m, g⟩, A4, n4, c4, l4⟩ S P n va vl idx wr) (fun _ _ idx _ => n - (intOf idx).toNat)
    case atStart => exact ⟨0, [], false, by omega, rfl, rfl, HP.out, by simp, HPI0.out⟩
    case round =>
      obtain ⟨i, zs, laid, hi, rfl, rfl, hp, hzl, hpi⟩ := hrel
      obtain ⟨Ao, co, rfl, _⟩ := own_slice hpi.1
      have HPI := Lib.hid hpi
      have HLEN : Hid (zs.length ≤ 200000) := by show _ ≤ _; omega
      have HZL := Lib.hid hzl
      have p0 := at_cell (i := 0) hpi.2.1 rfl
      have p1 := at_cell (i := 1) hpi.2.1 rfl
      have p2 := at_cell (i := 2) hpi.2.1 rfl
      have p3 := at_cell (i := 3) hpi.2.1 rfl
      have p4 := at_cell (i := 4) hpi.2.1 rfl
      have p5 := at_cell (i := 5) hpi.2.1 rfl
      have p6 := at_cell (i := 6) hpi.2.1 rfl
      by_cases hlt : i < n
      · obtain ⟨s, hs⟩ : ∃ s, S[i]? = some s := ⟨_, List.getElem?_eq_getElem (by rw [HL.out]; exact hlt)⟩
        have hfs := HF.out s (List.mem_of_getElem? hs)
        obtain ⟨ad, rfl, _, k0, k1, k2, k3, k4, k5, k6⟩ := recs_cells (H1.out.below hpi.2.2).1 i s hs
        have HRD : Hid (∀ W, Below w.heap.size w W → ∃ ad2 : Addr, ad2 = ad ∧ W.cell? (ad.add (i * 7)) = some (.int .i64 s.r.kind) ∧ W.cell? ⟨(ad.add (i * 7)).block, (ad.add (i * 7)).off + 1, none⟩ = some (.string (tx s.r.target)) ∧ W.cell? ⟨(ad.add (i * 7)).block, (ad.add (i * 7)).off + 2, none⟩ = some (.int .u64 s.r.rule) ∧ W.cell? ⟨(ad.add (i * 7)).block, (ad.add (i * 7)).off + 3, none⟩ = some (.slice s.A s.n s.c) ∧ W.cell? ⟨(ad.add (i * 7)).block, (ad.add (i * 7)).off + 4, none⟩ = some (.int .u64 s.r.out) ∧ W.cell? ⟨(ad.add (i * 7)).block, (ad.add (i * 7)).off + 5, none⟩ = some (.int .u64 s.r.time) ∧ W.cell? ⟨(ad.add (i * 7)).block, (ad.add (i * 7)).off + 6, none⟩ = some (.string (tx s.r.tag))) := fun W hW => by
          obtain ⟨ad2, e, _, h⟩ := recs_cells (H1.out.below hW).1 i s hs
          obtain rfl : ad = ad2 := by injection e
          exact ⟨ad, rfl, h⟩
        have hdr : S.drop i = s :: S.drop (i + 1) := by
          obtain ⟨h1, h2⟩ := List.getElem?_eq_some_iff.1 hs
          rw [← h2, List.getElem_cons_drop]
        have hi0 : (0 : Int) ≤ (i : Int) := by omega
        have hi1 : (i : Int) < (n : Int) := by omega
        have HLS := Lib.hid (fun W => less_any t s.t HXF.out hfs W)
        have hun1 : s.t ≠ t → ((tx s.t).toList == (tx t).toList) = false := tx_unlike
        have hun2 : s.t = t → ((tx s.t).toList == (tx t).toList) = true := fun e => by rw [e]; exact tx_like t
        obtain ⟨⟨kb, tb, ub, ob, mb, gb⟩, B4, m4, d4, l5⟩ := s
        unfold rsv at HLS
        unfold Rw.t at HLS hun1 hun2
        simp only at k0 k1 k2 k3 k4 k5 k6 HLS hun1 hun2 HRD
        have hsv : (⟨⟨kb, tb, ub, ob, mb, gb⟩, B4, m4, d4, l5⟩ : Rw).t = tb := rfl
        have hxv : (⟨⟨1, t, u, o, m, g⟩, A4, n4, c4, l4⟩ : Rw).t = t := rfl
        rw [hdr] at hp
        cases laid with
        | true =>
          rw [rput_cons_true, hsv, hxv] at hp
          by_cases he : tb = t
          · skip
            rw [if_neg (fun h => h he), List.nil_append] at hp
            have HPN := Lib.hid hp
            have hune := hun2 he
            clear hs hfs hdr hp hpi hzl hun1 hun2 he hsv hxv
            go_wp2
            go_quiet (fail)
            go_wp2
            go_quiet (fail)
            go_wp2
            exact ⟨⟨i + 1, zs, true, by omega, by go_num, rfl, HPN.out, by have := HZL.out; omega, HPI.out.drewN _⟩, by simp [intOf]; omega⟩
          · skip
            rw [if_pos he, ← List.append_assoc] at hp
            have HPN := Lib.hid hp
            have hune := hun1 he
            clear hs hfs hdr hp hpi hzl hun1 hun2 he hsv hxv
            go_wp2
            go_quiet (fail)
            go_wp2
            go_quiet (fail)
            generalize hW : World.drewN (World.drewN wr _) _ = w3
            have HPK : Hid (PutI w ⟨⟨1, t, u, o, m, g⟩, A4, n4, c4, l4⟩ w3 (.slice Ao zs.length co) (zs)) := by rw [← hW]; exact (HPI.out.drewN _).drewN _
            obtain ⟨_, rfl, j0, j1, j2, j3, j4, j5, j6⟩ := HRD.out w3 HPK.out.2.2
            have r0 := at_cell (i := 0) HPK.out.2.1 rfl
            have r1 := at_cell (i := 1) HPK.out.2.1 rfl
            have r2 := at_cell (i := 2) HPK.out.2.1 rfl
            have r3 := at_cell (i := 3) HPK.out.2.1 rfl
            have r4 := at_cell (i := 4) HPK.out.2.1 rfl
            have r5 := at_cell (i := 5) HPK.out.2.1 rfl
            have r6 := at_cell (i := 6) HPK.out.2.1 rfl
            clear hW
            go_wp2_with (at_builtin; refine wpList_append_many _ rfl (.tmp 51) (.tmp 56) 22 rfl (w.heap.size + 1) 35 i0 _ 7 88 Tryd.underlying22 ii0 iz0 iz1 iz2 rfl (by decide) _ (zs).length (rws (zs)) rfl (HPK.out.1.alloc _) (some ⟨w3.heap.size, 0, none⟩) 1 1 (w3.heap.size + 1) (rws [⟨⟨kb, tb, ub, ob, mb, gb⟩, B4, m4, d4, l5⟩]) rfl (by simp) (reads_rec w3 ⟨⟨kb, tb, ub, ob, mb, gb⟩, B4, m4, d4, l5⟩) (rws_one _) (by have := HLEN.out; simp at this ⊢; unfold maxLen; omega) (by have := HLEN.out; simp at this ⊢; omega) (by have := HPK.out.base; simp; omega) ?_; intro v1 w6 ho hg; obtain ⟨v1A, v1c, rfl, _⟩ := own_slice ho; have HPJ := Lib.hid (putI_more HPK.out ⟨⟨kb, tb, ub, ob, mb, gb⟩, B4, m4, d4, l5⟩ ho hg); have HPJQ1 := at_cell (i := 1) HPJ.out.2.1 rfl; have HPJQ0 := at_cell (i := 0) HPJ.out.2.1 rfl; have HPJQ2 := at_cell (i := 2) HPJ.out.2.1 rfl; have HPJQ3 := at_cell (i := 3) HPJ.out.2.1 rfl; have HPJQ4 := at_cell (i := 4) HPJ.out.2.1 rfl; have HPJQ5 := at_cell (i := 5) HPJ.out.2.1 rfl; have HPJQ6 := at_cell (i := 6) HPJ.out.2.1 rfl; clear ho hg)
            exact ⟨⟨i + 1, zs ++ [⟨⟨kb, tb, ub, ob, mb, gb⟩, B4, m4, d4, l5⟩], true, by omega, by go_num, rfl, HPN.out, by have := HZL.out; simp; omega, HPJ.out⟩, by simp [intOf]; omega⟩
        | false =>
          by_cases hlx : t < tb
          · skip
            rw [rput_cons_less (x := ⟨⟨1, t, u, o, m, g⟩, A4, n4, c4, l4⟩) (s := ⟨⟨kb, tb, ub, ob, mb, gb⟩, B4, m4, d4, l5⟩) _ hlx, List.append_cons, List.append_cons] at hp
            have HPN := Lib.hid hp
            have he : tb ≠ t := fun e => lx_ne hlx e.symm
            have hune := hun1 he
            rw [decide_eq_true hlx] at HLS
            clear hs hfs hdr hp hpi hzl hun1 hun2 he hsv hxv
            clear hlx
            go_wp2
            go_quiet ((go_at_call 37; exact Calls.quiet_of (HLS.out _)))
            generalize hW : World.drewN wr _ = w3
            have HPK : Hid (PutI w ⟨⟨1, t, u, o, m, g⟩, A4, n4, c4, l4⟩ w3 (.slice Ao zs.length co) (zs)) := by rw [← hW]; exact HPI.out.drewN _
            obtain ⟨_, rfl, j0, j1, j2, j3, j4, j5, j6⟩ := HRD.out w3 HPK.out.2.2
            have r0 := at_cell (i := 0) HPK.out.2.1 rfl
            have r1 := at_cell (i := 1) HPK.out.2.1 rfl
            have r2 := at_cell (i := 2) HPK.out.2.1 rfl
            have r3 := at_cell (i := 3) HPK.out.2.1 rfl
            have r4 := at_cell (i := 4) HPK.out.2.1 rfl
            have r5 := at_cell (i := 5) HPK.out.2.1 rfl
            have r6 := at_cell (i := 6) HPK.out.2.1 rfl
            clear hW
            go_wp2_with (at_builtin; refine wpList_append_many _ rfl (.tmp 39) (.tmp 41) 22 rfl (w.heap.size + 1) 35 i0 _ 7 88 Tryd.underlying22 ii0 iz0 iz1 iz2 rfl (by decide) _ (zs).length (rws (zs)) rfl (HPK.out.1.alloc _) (some ⟨w3.heap.size, 0, none⟩) 1 1 (w3.heap.size + 1) (rws [⟨⟨1, t, u, o, m, g⟩, A4, n4, c4, l4⟩]) rfl (by simp) (reads_rec w3 ⟨⟨1, t, u, o, m, g⟩, A4, n4, c4, l4⟩) (rws_one _) (by have := HLEN.out; simp at this ⊢; unfold maxLen; omega) (by have := HLEN.out; simp at this ⊢; omega) (by have := HPK.out.base; simp; omega) ?_; intro v1 w6 ho hg; obtain ⟨v1A, v1c, rfl, _⟩ := own_slice ho; have HPJ := Lib.hid (putI_more HPK.out ⟨⟨1, t, u, o, m, g⟩, A4, n4, c4, l4⟩ ho hg); have HPJQ1 := at_cell (i := 1) HPJ.out.2.1 rfl; have HPJQ0 := at_cell (i := 0) HPJ.out.2.1 rfl; have HPJQ2 := at_cell (i := 2) HPJ.out.2.1 rfl; have HPJQ3 := at_cell (i := 3) HPJ.out.2.1 rfl; have HPJQ4 := at_cell (i := 4) HPJ.out.2.1 rfl; have HPJQ5 := at_cell (i := 5) HPJ.out.2.1 rfl; have HPJQ6 := at_cell (i := 6) HPJ.out.2.1 rfl; clear ho hg)
            obtain ⟨_, rfl, l0, l1, l2, l3, l4x, l5x, l6⟩ := HRD.out w6 HPJ.out.2.2
            go_quiet (fail)
            generalize hW : World.drewN w6 _ = w7
            have HPL : Hid (PutI w ⟨⟨1, t, u, o, m, g⟩, A4, n4, c4, l4⟩ w7 (.slice v1A (zs.length + 1) v1c) (zs ++ [(⟨⟨1, t, u, o, m, g⟩, A4, n4, c4, l4⟩ : Rw)])) := by rw [← hW]; exact HPJ.out.drewN _
            obtain ⟨_, rfl, i0x, i1x, i2x, i3x, i4x, i5x, i6x⟩ := HRD.out w7 HPL.out.2.2
            have s0 := at_cell (i := 0) HPL.out.2.1 rfl
            have s1 := at_cell (i := 1) HPL.out.2.1 rfl
            have s2 := at_cell (i := 2) HPL.out.2.1 rfl
            have s3 := at_cell (i := 3) HPL.out.2.1 rfl
            have s4 := at_cell (i := 4) HPL.out.2.1 rfl
            have s5 := at_cell (i := 5) HPL.out.2.1 rfl
            have s6 := at_cell (i := 6) HPL.out.2.1 rfl
            clear hW
            go_wp2_with (at_builtin; refine wpList_append_many _ rfl (.tmp 51) (.tmp 56) 22 rfl (w.heap.size + 1) 35 i0 _ 7 88 Tryd.underlying22 ii0 iz0 iz1 iz2 rfl (by decide) _ (zs ++ [(⟨⟨1, t, u, o, m, g⟩, A4, n4, c4, l4⟩ : Rw)]).length (rws (zs ++ [(⟨⟨1, t, u, o, m, g⟩, A4, n4, c4, l4⟩ : Rw)])) rfl (HPL.out.1.alloc _) (some ⟨w7.heap.size, 0, none⟩) 1 1 (w7.heap.size + 1) (rws [⟨⟨kb, tb, ub, ob, mb, gb⟩, B4, m4, d4, l5⟩]) rfl (by simp) (reads_rec w7 ⟨⟨kb, tb, ub, ob, mb, gb⟩, B4, m4, d4, l5⟩) (rws_one _) (by have := HLEN.out; simp at this ⊢; unfold maxLen; omega) (by have := HLEN.out; simp at this ⊢; omega) (by have := HPL.out.base; simp; omega) ?_; intro v2 w8 ho hg; obtain ⟨v2A, v2c, rfl, _⟩ := own_slice ho; have HPM := Lib.hid (putI_more HPL.out ⟨⟨kb, tb, ub, ob, mb, gb⟩, B4, m4, d4, l5⟩ ho hg); have HPMQ1 := at_cell (i := 1) HPM.out.2.1 rfl; have HPMQ0 := at_cell (i := 0) HPM.out.2.1 rfl; have HPMQ2 := at_cell (i := 2) HPM.out.2.1 rfl; have HPMQ3 := at_cell (i := 3) HPM.out.2.1 rfl; have HPMQ4 := at_cell (i := 4) HPM.out.2.1 rfl; have HPMQ5 := at_cell (i := 5) HPM.out.2.1 rfl; have HPMQ6 := at_cell (i := 6) HPM.out.2.1 rfl; clear ho hg)
            exact ⟨⟨i + 1, zs ++ [(⟨⟨1, t, u, o, m, g⟩, A4, n4, c4, l4⟩ : Rw)] ++ [(⟨⟨kb, tb, ub, ob, mb, gb⟩, B4, m4, d4, l5⟩ : Rw)], true, by omega, by go_num, rfl, HPN.out, by have := HZL.out; simp; omega, by have h := HPM.out; simp only [List.length_append, List.length_singleton] at h; exact h⟩, by simp [intOf]; omega⟩
          · rw [rput_cons_not _ (show ¬ (⟨⟨1, t, u, o, m, g⟩, A4, n4, c4, l4⟩ : Rw).t < (⟨⟨kb, tb, ub, ob, mb, gb⟩, B4, m4, d4, l5⟩ : Rw).t from hlx), hsv, hxv] at hp
            rw [decide_eq_false hlx] at HLS
            by_cases he : tb = t
            · skip
              rw [if_neg (fun h => h he), List.nil_append] at hp
              have HPN := Lib.hid hp
              have hune := hun2 he
              clear hs hfs hdr hp hpi hzl hun1 hun2 he hsv hxv
              clear hlx
              go_wp2
              go_quiet ((go_at_call 37; exact Calls.quiet_of (HLS.out _)))
              go_wp2
              go_quiet (fail)
              go_wp2
              exact ⟨⟨i + 1, zs, false, by omega, by go_num, rfl, HPN.out, by have := HZL.out; omega, HPI.out.drewN _⟩, by simp [intOf]; omega⟩
            · skip
              rw [if_pos he, ← List.append_assoc] at hp
              have HPN := Lib.hid hp
              have hune := hun1 he
              clear hs hfs hdr hp hpi hzl hun1 hun2 he hsv hxv
              clear hlx
              go_wp2
              go_quiet ((go_at_call 37; exact Calls.quiet_of (HLS.out _)))
              go_wp2
              go_quiet (fail)
              generalize hW : World.drewN (World.drewN wr _) _ = w3
              have HPK : Hid (PutI w ⟨⟨1, t, u, o, m, g⟩, A4, n4, c4, l4⟩ w3 (.slice Ao zs.length co) (zs)) := by rw [← hW]; exact (HPI.out.drewN _).drewN _
              obtain ⟨_, rfl, j0, j1, j2, j3, j4, j5, j6⟩ := HRD.out w3 HPK.out.2.2
              have r0 := at_cell (i := 0) HPK.out.2.1 rfl
              have r1 := at_cell (i := 1) HPK.out.2.1 rfl
              have r2 := at_cell (i := 2) HPK.out.2.1 rfl
              have r3 := at_cell (i := 3) HPK.out.2.1 rfl
              have r4 := at_cell (i := 4) HPK.out.2.1 rfl
              have r5 := at_cell (i := 5) HPK.out.2.1 rfl
              have r6 := at_cell (i := 6) HPK.out.2.1 rfl
              clear hW
              go_wp2_with (at_builtin; refine wpList_append_many _ rfl (.tmp 51) (.tmp 56) 22 rfl (w.heap.size + 1) 35 i0 _ 7 88 Tryd.underlying22 ii0 iz0 iz1 iz2 rfl (by decide) _ (zs).length (rws (zs)) rfl (HPK.out.1.alloc _) (some ⟨w3.heap.size, 0, none⟩) 1 1 (w3.heap.size + 1) (rws [⟨⟨kb, tb, ub, ob, mb, gb⟩, B4, m4, d4, l5⟩]) rfl (by simp) (reads_rec w3 ⟨⟨kb, tb, ub, ob, mb, gb⟩, B4, m4, d4, l5⟩) (rws_one _) (by have := HLEN.out; simp at this ⊢; unfold maxLen; omega) (by have := HLEN.out; simp at this ⊢; omega) (by have := HPK.out.base; simp; omega) ?_; intro v1 w6 ho hg; obtain ⟨v1A, v1c, rfl, _⟩ := own_slice ho; have HPJ := Lib.hid (putI_more HPK.out ⟨⟨kb, tb, ub, ob, mb, gb⟩, B4, m4, d4, l5⟩ ho hg); have HPJQ1 := at_cell (i := 1) HPJ.out.2.1 rfl; have HPJQ0 := at_cell (i := 0) HPJ.out.2.1 rfl; have HPJQ2 := at_cell (i := 2) HPJ.out.2.1 rfl; have HPJQ3 := at_cell (i := 3) HPJ.out.2.1 rfl; have HPJQ4 := at_cell (i := 4) HPJ.out.2.1 rfl; have HPJQ5 := at_cell (i := 5) HPJ.out.2.1 rfl; have HPJQ6 := at_cell (i := 6) HPJ.out.2.1 rfl; clear ho hg)
              exact ⟨⟨i + 1, zs ++ [⟨⟨kb, tb, ub, ob, mb, gb⟩, B4, m4, d4, l5⟩], false, by omega, by go_num, rfl, HPN.out, by have := HZL.out; simp; omega, HPJ.out⟩, by simp [intOf]; omega⟩
      · obtain rfl : i = n := by omega
        have e0 : S.drop i = [] := List.drop_of_length_le (by rw [HL.out]; omega)
        rw [e0] at hp
        clear e0
        cases laid with
        | true =>
          obtain ⟨A', c', hsl, hrc, hac, hbw⟩ := HEND.out wr _ zs hpi (by rw [← hp]; exact (List.append_nil zs).symm)
          have HSL := Lib.hid hsl
          have HRC := Lib.hid hrc
          have HAC := Lib.hid hac
          have HBW := Lib.hid hbw
          clear hp hpi hzl hrc hac hbw hsl
          go_wp2
          go_ret
          exact ⟨A', c', congrArg Ending.returned HSL.out, HRC.out, HAC.out, HBW.out⟩
        | false =>
          have HPN : Hid (zs ++ [⟨⟨1, t, u, o, m, g⟩, A4, n4, c4, l4⟩] = P) := hp
          clear hp hpi hzl
          go_wp2_with (at_builtin; refine wpList_append_many _ rfl (.tmp 60) (.tmp 62) 22 rfl (w.heap.size + 1) 35 i0 _ 7 88 Tryd.underlying22 ii0 iz0 iz1 iz2 rfl (by decide) _ (zs).length (rws (zs)) rfl (HPI.out.1.alloc _) (some ⟨wr.heap.size, 0, none⟩) 1 1 (wr.heap.size + 1) (rws [⟨⟨1, t, u, o, m, g⟩, A4, n4, c4, l4⟩]) rfl (by simp) (reads_rec wr ⟨⟨1, t, u, o, m, g⟩, A4, n4, c4, l4⟩) (rws_one _) (by have := HLEN.out; simp at this ⊢; unfold maxLen; omega) (by have := HLEN.out; simp at this ⊢; omega) (by have := HPI.out.base; simp; omega) ?_; intro v1 w6 ho hg; obtain ⟨v1A, v1c, rfl, _⟩ := own_slice ho; have HPJ := Lib.hid (putI_more HPI.out ⟨⟨1, t, u, o, m, g⟩, A4, n4, c4, l4⟩ ho hg); have HPJQ1 := at_cell (i := 1) HPJ.out.2.1 rfl; have HPJQ0 := at_cell (i := 0) HPJ.out.2.1 rfl; have HPJQ2 := at_cell (i := 2) HPJ.out.2.1 rfl; have HPJQ3 := at_cell (i := 3) HPJ.out.2.1 rfl; have HPJQ4 := at_cell (i := 4) HPJ.out.2.1 rfl; have HPJQ5 := at_cell (i := 5) HPJ.out.2.1 rfl; have HPJQ6 := at_cell (i := 6) HPJ.out.2.1 rfl; clear ho hg)
          obtain ⟨A', c', hsl, hrc, hac, hbw⟩ := HEND.out w6 _ _ HPJ.out HPN.out
          go_ret
          exact ⟨A', c', congrArg Ending.returned hsl, hrc, hac, hbw⟩
  by_cases hk2 : x.r.kind = 2
  · have hP : ([] : List Rw) ++ rput Rw.t x true (S.drop 0) = put1 Rw.k Rw.t S x := by
      unfold put1
      rw [if_neg (show ¬ x.k = 1 from hk1), if_pos (show x.k = 2 from hk2)]
      rfl
    generalize put1 Rw.k Rw.t S x = P at *
    have HP := Lib.hid hP
    obtain ⟨⟨k, t, u, o, m, g⟩, A4, n4, c4, l4⟩ := x
    simp only at hk2
    subst hk2
    unfold Rw.val rcv rsv
    unfold Rw.t at HXF
    simp only at HXF ⊢
    obtain ⟨h00, h01, hsz⟩ := two_new w (.cells #[.int .i64 2, .string (tx t), .int .u64 u, .slice A4 n4 c4, .int .u64 o, .int .u64 m, .string (tx g)] 35) (.cells #[] 35)
    have HPI0 : Hid (PutI w ⟨⟨2, t, u, o, m, g⟩, A4, n4, c4, l4⟩ ((w.alloc (.cells #[.int .i64 2, .string (tx t), .int .u64 u, .slice A4 n4 c4, .int .u64 o, .int .u64 m, .string (tx g)] 35)).alloc (.cells #[] 35)) (.slice (some ⟨w.heap.size + 1, 0, none⟩) 0 0) []) :=
      ⟨(by have := gempty7 (w.alloc (.cells #[.int .i64 2, .string (tx t), .int .u64 u, .slice A4 n4 c4, .int .u64 o, .int .u64 m, .string (tx g)] 35)) (w.heap.size + 1) (by simp); simpa using this), h00, ((Below.refl _ w).alloc (Nat.le_refl _) _).alloc (by simp) _⟩
    have b0 := one_new w (.cells #[.int .i64 2, .string (tx t), .int .u64 u, .slice A4 n4 c4, .int .u64 o, .int .u64 m, .string (tx g)] 35)
    have a0 := at_cell (i := 0) b0 rfl
    have c0 := at_cell (i := 0) h00 rfl
    clear hk1 h hf hx hr hA hP hl0 h00 h01 hsz b0
    have hkk : True := trivial
    clear hkk
    go_enter Tryd.func24, Tryd.ntmps24
    go_wp2
    go_loopw [5, 6, 7] (fun va vl idx wr => PuRel w ⟨⟨2, t, u, o, m, g⟩, A4, n4, c4, l4⟩ S P n va vl idx wr) (fun _ _ idx _ => n - (intOf idx).toNat)
    case atStart => exact ⟨0, [], true, by omega, rfl, rfl, HP.out, by simp, HPI0.out⟩
    case round =>
      obtain ⟨i, zs, laid, hi, rfl, rfl, hp, hzl, hpi⟩ := hrel
      obtain ⟨Ao, co, rfl, _⟩ := own_slice hpi.1
      have HPI := Lib.hid hpi
      have HLEN : Hid (zs.length ≤ 200000) := by show _ ≤ _; omega
      have HZL := Lib.hid hzl
      have p0 := at_cell (i := 0) hpi.2.1 rfl
      have p1 := at_cell (i := 1) hpi.2.1 rfl
      have p2 := at_cell (i := 2) hpi.2.1 rfl
      have p3 := at_cell (i := 3) hpi.2.1 rfl
      have p4 := at_cell (i := 4) hpi.2.1 rfl
      have p5 := at_cell (i := 5) hpi.2.1 rfl
      have p6 := at_cell (i := 6) hpi.2.1 rfl
      by_cases hlt : i < n
      · obtain ⟨s, hs⟩ : ∃ s, S[i]? = some s := ⟨_, List.getElem?_eq_getElem (by rw [HL.out]; exact hlt)⟩
        have hfs := HF.out s (List.mem_of_getElem? hs)
        obtain ⟨ad, rfl, _, k0, k1, k2, k3, k4, k5, k6⟩ := recs_cells (H1.out.below hpi.2.2).1 i s hs
        have HRD : Hid (∀ W, Below w.heap.size w W → ∃ ad2 : Addr, ad2 = ad ∧ W.cell? (ad.add (i * 7)) = some (.int .i64 s.r.kind) ∧ W.cell? ⟨(ad.add (i * 7)).block, (ad.add (i * 7)).off + 1, none⟩ = some (.string (tx s.r.target)) ∧ W.cell? ⟨(ad.add (i * 7)).block, (ad.add (i * 7)).off + 2, none⟩ = some (.int .u64 s.r.rule) ∧ W.cell? ⟨(ad.add (i * 7)).block, (ad.add (i * 7)).off + 3, none⟩ = some (.slice s.A s.n s.c) ∧ W.cell? ⟨(ad.add (i * 7)).block, (ad.add (i * 7)).off + 4, none⟩ = some (.int .u64 s.r.out) ∧ W.cell? ⟨(ad.add (i * 7)).block, (ad.add (i * 7)).off + 5, none⟩ = some (.int .u64 s.r.time) ∧ W.cell? ⟨(ad.add (i * 7)).block, (ad.add (i * 7)).off + 6, none⟩ = some (.string (tx s.r.tag))) := fun W hW => by
          obtain ⟨ad2, e, _, h⟩ := recs_cells (H1.out.below hW).1 i s hs
          obtain rfl : ad = ad2 := by injection e
          exact ⟨ad, rfl, h⟩
        have hdr : S.drop i = s :: S.drop (i + 1) := by
          obtain ⟨h1, h2⟩ := List.getElem?_eq_some_iff.1 hs
          rw [← h2, List.getElem_cons_drop]
        have hi0 : (0 : Int) ≤ (i : Int) := by omega
        have hi1 : (i : Int) < (n : Int) := by omega
        have HLS := Lib.hid (fun W => less_any t s.t HXF.out hfs W)
        have hun1 : s.t ≠ t → ((tx s.t).toList == (tx t).toList) = false := tx_unlike
        have hun2 : s.t = t → ((tx s.t).toList == (tx t).toList) = true := fun e => by rw [e]; exact tx_like t
        obtain ⟨⟨kb, tb, ub, ob, mb, gb⟩, B4, m4, d4, l5⟩ := s
        unfold rsv at HLS
        unfold Rw.t at HLS hun1 hun2
        simp only at k0 k1 k2 k3 k4 k5 k6 HLS hun1 hun2 HRD
        have hsv : (⟨⟨kb, tb, ub, ob, mb, gb⟩, B4, m4, d4, l5⟩ : Rw).t = tb := rfl
        have hxv : (⟨⟨2, t, u, o, m, g⟩, A4, n4, c4, l4⟩ : Rw).t = t := rfl
        rw [hdr] at hp
        cases laid with
        | true =>
          rw [rput_cons_true, hsv, hxv] at hp
          by_cases he : tb = t
          · skip
            rw [if_neg (fun h => h he), List.nil_append] at hp
            have HPN := Lib.hid hp
            have hune := hun2 he
            clear hs hfs hdr hp hpi hzl hun1 hun2 he hsv hxv
            go_wp2
            go_quiet (fail)
            go_wp2
            go_quiet (fail)
            go_wp2
            exact ⟨⟨i + 1, zs, true, by omega, by go_num, rfl, HPN.out, by have := HZL.out; omega, HPI.out.drewN _⟩, by simp [intOf]; omega⟩
          · skip
            rw [if_pos he, ← List.append_assoc] at hp
            have HPN := Lib.hid hp
            have hune := hun1 he
            clear hs hfs hdr hp hpi hzl hun1 hun2 he hsv hxv
            go_wp2
            go_quiet (fail)
            go_wp2
            go_quiet (fail)
            generalize hW : World.drewN (World.drewN wr _) _ = w3
            have HPK : Hid (PutI w ⟨⟨2, t, u, o, m, g⟩, A4, n4, c4, l4⟩ w3 (.slice Ao zs.length co) (zs)) := by rw [← hW]; exact (HPI.out.drewN _).drewN _
            obtain ⟨_, rfl, j0, j1, j2, j3, j4, j5, j6⟩ := HRD.out w3 HPK.out.2.2
            have r0 := at_cell (i := 0) HPK.out.2.1 rfl
            have r1 := at_cell (i := 1) HPK.out.2.1 rfl
            have r2 := at_cell (i := 2) HPK.out.2.1 rfl
            have r3 := at_cell (i := 3) HPK.out.2.1 rfl
            have r4 := at_cell (i := 4) HPK.out.2.1 rfl
            have r5 := at_cell (i := 5) HPK.out.2.1 rfl
            have r6 := at_cell (i := 6) HPK.out.2.1 rfl
            clear hW
            go_wp2_with (at_builtin; refine wpList_append_many _ rfl (.tmp 51) (.tmp 56) 22 rfl (w.heap.size + 1) 35 i0 _ 7 88 Tryd.underlying22 ii0 iz0 iz1 iz2 rfl (by decide) _ (zs).length (rws (zs)) rfl (HPK.out.1.alloc _) (some ⟨w3.heap.size, 0, none⟩) 1 1 (w3.heap.size + 1) (rws [⟨⟨kb, tb, ub, ob, mb, gb⟩, B4, m4, d4, l5⟩]) rfl (by simp) (reads_rec w3 ⟨⟨kb, tb, ub, ob, mb, gb⟩, B4, m4, d4, l5⟩) (rws_one _) (by have := HLEN.out; simp at this ⊢; unfold maxLen; omega) (by have := HLEN.out; simp at this ⊢; omega) (by have := HPK.out.base; simp; omega) ?_; intro v1 w6 ho hg; obtain ⟨v1A, v1c, rfl, _⟩ := own_slice ho; have HPJ := Lib.hid (putI_more HPK.out ⟨⟨kb, tb, ub, ob, mb, gb⟩, B4, m4, d4, l5⟩ ho hg); have HPJQ1 := at_cell (i := 1) HPJ.out.2.1 rfl; have HPJQ0 := at_cell (i := 0) HPJ.out.2.1 rfl; have HPJQ2 := at_cell (i := 2) HPJ.out.2.1 rfl; have HPJQ3 := at_cell (i := 3) HPJ.out.2.1 rfl; have HPJQ4 := at_cell (i := 4) HPJ.out.2.1 rfl; have HPJQ5 := at_cell (i := 5) HPJ.out.2.1 rfl; have HPJQ6 := at_cell (i := 6) HPJ.out.2.1 rfl; clear ho hg)
            exact ⟨⟨i + 1, zs ++ [⟨⟨kb, tb, ub, ob, mb, gb⟩, B4, m4, d4, l5⟩], true, by omega, by go_num, rfl, HPN.out, by have := HZL.out; simp; omega, HPJ.out⟩, by simp [intOf]; omega⟩
        | false =>
          by_cases hlx : t < tb
          · skip
            rw [rput_cons_less (x := ⟨⟨2, t, u, o, m, g⟩, A4, n4, c4, l4⟩) (s := ⟨⟨kb, tb, ub, ob, mb, gb⟩, B4, m4, d4, l5⟩) _ hlx, List.append_cons, List.append_cons] at hp
            have HPN := Lib.hid hp
            have he : tb ≠ t := fun e => lx_ne hlx e.symm
            have hune := hun1 he
            rw [decide_eq_true hlx] at HLS
            clear hs hfs hdr hp hpi hzl hun1 hun2 he hsv hxv
            clear hlx
            go_wp2
            go_quiet ((go_at_call 37; exact Calls.quiet_of (HLS.out _)))
            generalize hW : World.drewN wr _ = w3
            have HPK : Hid (PutI w ⟨⟨2, t, u, o, m, g⟩, A4, n4, c4, l4⟩ w3 (.slice Ao zs.length co) (zs)) := by rw [← hW]; exact HPI.out.drewN _
            obtain ⟨_, rfl, j0, j1, j2, j3, j4, j5, j6⟩ := HRD.out w3 HPK.out.2.2
            have r0 := at_cell (i := 0) HPK.out.2.1 rfl
            have r1 := at_cell (i := 1) HPK.out.2.1 rfl
            have r2 := at_cell (i := 2) HPK.out.2.1 rfl
            have r3 := at_cell (i := 3) HPK.out.2.1 rfl
            have r4 := at_cell (i := 4) HPK.out.2.1 rfl
            have r5 := at_cell (i := 5) HPK.out.2.1 rfl
            have r6 := at_cell (i := 6) HPK.out.2.1 rfl
            clear hW
            go_wp2_with (at_builtin; refine wpList_append_many _ rfl (.tmp 39) (.tmp 41) 22 rfl (w.heap.size + 1) 35 i0 _ 7 88 Tryd.underlying22 ii0 iz0 iz1 iz2 rfl (by decide) _ (zs).length (rws (zs)) rfl (HPK.out.1.alloc _) (some ⟨w3.heap.size, 0, none⟩) 1 1 (w3.heap.size + 1) (rws [⟨⟨2, t, u, o, m, g⟩, A4, n4, c4, l4⟩]) rfl (by simp) (reads_rec w3 ⟨⟨2, t, u, o, m, g⟩, A4, n4, c4, l4⟩) (rws_one _) (by have := HLEN.out; simp at this ⊢; unfold maxLen; omega) (by have := HLEN.out; simp at this ⊢; omega) (by have := HPK.out.base; simp; omega) ?_; intro v1 w6 ho hg; obtain ⟨v1A, v1c, rfl, _⟩ := own_slice ho; have HPJ := Lib.hid (putI_more HPK.out ⟨⟨2, t, u, o, m, g⟩, A4, n4, c4, l4⟩ ho hg); have HPJQ1 := at_cell (i := 1) HPJ.out.2.1 rfl; have HPJQ0 := at_cell (i := 0) HPJ.out.2.1 rfl; have HPJQ2 := at_cell (i := 2) HPJ.out.2.1 rfl; have HPJQ3 := at_cell (i := 3) HPJ.out.2.1 rfl; have HPJQ4 := at_cell (i := 4) HPJ.out.2.1 rfl; have HPJQ5 := at_cell (i := 5) HPJ.out.2.1 rfl; have HPJQ6 := at_cell (i := 6) HPJ.out.2.1 rfl; clear ho hg)
            obtain ⟨_, rfl, l0, l1, l2, l3, l4x, l5x, l6⟩ := HRD.out w6 HPJ.out.2.2
            go_quiet (fail)
            generalize hW : World.drewN w6 _ = w7
            have HPL : Hid (PutI w ⟨⟨2, t, u, o, m, g⟩, A4, n4, c4, l4⟩ w7 (.slice v1A (zs.length + 1) v1c) (zs ++ [(⟨⟨2, t, u, o, m, g⟩, A4, n4, c4, l4⟩ : Rw)])) := by rw [← hW]; exact HPJ.out.drewN _
            obtain ⟨_, rfl, i0x, i1x, i2x, i3x, i4x, i5x, i6x⟩ := HRD.out w7 HPL.out.2.2
            have s0 := at_cell (i := 0) HPL.out.2.1 rfl
            have s1 := at_cell (i := 1) HPL.out.2.1 rfl
            have s2 := at_cell (i := 2) HPL.out.2.1 rfl
            have s3 := at_cell (i := 3) HPL.out.2.1 rfl
            have s4 := at_cell (i := 4) HPL.out.2.1 rfl
            have s5 := at_cell (i := 5) HPL.out.2.1 rfl
            have s6 := at_cell (i := 6) HPL.out.2.1 rfl
            clear hW
            go_wp2_with (at_builtin; refine wpList_append_many _ rfl (.tmp 51) (.tmp 56) 22 rfl (w.heap.size + 1) 35 i0 _ 7 88 Tryd.underlying22 ii0 iz0 iz1 iz2 rfl (by decide) _ (zs ++ [(⟨⟨2, t, u, o, m, g⟩, A4, n4, c4, l4⟩ : Rw)]).length (rws (zs ++ [(⟨⟨2, t, u, o, m, g⟩, A4, n4, c4, l4⟩ : Rw)])) rfl (HPL.out.1.alloc _) (some ⟨w7.heap.size, 0, none⟩) 1 1 (w7.heap.size + 1) (rws [⟨⟨kb, tb, ub, ob, mb, gb⟩, B4, m4, d4, l5⟩]) rfl (by simp) (reads_rec w7 ⟨⟨kb, tb, ub, ob, mb, gb⟩, B4, m4, d4, l5⟩) (rws_one _) (by have := HLEN.out; simp at this ⊢; unfold maxLen; omega) (by have := HLEN.out; simp at this ⊢; omega) (by have := HPL.out.base; simp; omega) ?_; intro v2 w8 ho hg; obtain ⟨v2A, v2c, rfl, _⟩ := own_slice ho; have HPM := Lib.hid (putI_more HPL.out ⟨⟨kb, tb, ub, ob, mb, gb⟩, B4, m4, d4, l5⟩ ho hg); have HPMQ1 := at_cell (i := 1) HPM.out.2.1 rfl; have HPMQ0 := at_cell (i := 0) HPM.out.2.1 rfl; have HPMQ2 := at_cell (i := 2) HPM.out.2.1 rfl; have HPMQ3 := at_cell (i := 3) HPM.out.2.1 rfl; have HPMQ4 := at_cell (i := 4) HPM.out.2.1 rfl; have HPMQ5 := at_cell (i := 5) HPM.out.2.1 rfl; have HPMQ6 := at_cell (i := 6) HPM.out.2.1 rfl; clear ho hg)
            exact ⟨⟨i + 1, zs ++ [(⟨⟨2, t, u, o, m, g⟩, A4, n4, c4, l4⟩ : Rw)] ++ [(⟨⟨kb, tb, ub, ob, mb, gb⟩, B4, m4, d4, l5⟩ : Rw)], true, by omega, by go_num, rfl, HPN.out, by have := HZL.out; simp; omega, by have h := HPM.out; simp only [List.length_append, List.length_singleton] at h; exact h⟩, by simp [intOf]; omega⟩
          · rw [rput_cons_not _ (show ¬ (⟨⟨2, t, u, o, m, g⟩, A4, n4, c4, l4⟩ : Rw).t < (⟨⟨kb, tb, ub, ob, mb, gb⟩, B4, m4, d4, l5⟩ : Rw).t from hlx), hsv, hxv] at hp
            rw [decide_eq_false hlx] at HLS
            by_cases he : tb = t
            · skip
              rw [if_neg (fun h => h he), List.nil_append] at hp
              have HPN := Lib.hid hp
              have hune := hun2 he
              clear hs hfs hdr hp hpi hzl hun1 hun2 he hsv hxv
              clear hlx
              go_wp2
              go_quiet ((go_at_call 37; exact Calls.quiet_of (HLS.out _)))
              go_wp2
              go_quiet (fail)
              go_wp2
              exact ⟨⟨i + 1, zs, false, by omega, by go_num, rfl, HPN.out, by have := HZL.out; omega, HPI.out.drewN _⟩, by simp [intOf]; omega⟩
            · skip
              rw [if_pos he, ← List.append_assoc] at hp
              have HPN := Lib.hid hp
              have hune := hun1 he
              clear hs hfs hdr hp hpi hzl hun1 hun2 he hsv hxv
              clear hlx
              go_wp2
              go_quiet ((go_at_call 37; exact Calls.quiet_of (HLS.out _)))
              go_wp2
              go_quiet (fail)
              generalize hW : World.drewN (World.drewN wr _) _ = w3
              have HPK : Hid (PutI w ⟨⟨2, t, u, o, m, g⟩, A4, n4, c4, l4⟩ w3 (.slice Ao zs.length co) (zs)) := by rw [← hW]; exact (HPI.out.drewN _).drewN _
              obtain ⟨_, rfl, j0, j1, j2, j3, j4, j5, j6⟩ := HRD.out w3 HPK.out.2.2
              have r0 := at_cell (i := 0) HPK.out.2.1 rfl
              have r1 := at_cell (i := 1) HPK.out.2.1 rfl
              have r2 := at_cell (i := 2) HPK.out.2.1 rfl
              have r3 := at_cell (i := 3) HPK.out.2.1 rfl
              have r4 := at_cell (i := 4) HPK.out.2.1 rfl
              have r5 := at_cell (i := 5) HPK.out.2.1 rfl
              have r6 := at_cell (i := 6) HPK.out.2.1 rfl
              clear hW
              go_wp2_with (at_builtin; refine wpList_append_many _ rfl (.tmp 51) (.tmp 56) 22 rfl (w.heap.size + 1) 35 i0 _ 7 88 Tryd.underlying22 ii0 iz0 iz1 iz2 rfl (by decide) _ (zs).length (rws (zs)) rfl (HPK.out.1.alloc _) (some ⟨w3.heap.size, 0, none⟩) 1 1 (w3.heap.size + 1) (rws [⟨⟨kb, tb, ub, ob, mb, gb⟩, B4, m4, d4, l5⟩]) rfl (by simp) (reads_rec w3 ⟨⟨kb, tb, ub, ob, mb, gb⟩, B4, m4, d4, l5⟩) (rws_one _) (by have := HLEN.out; simp at this ⊢; unfold maxLen; omega) (by have := HLEN.out; simp at this ⊢; omega) (by have := HPK.out.base; simp; omega) ?_; intro v1 w6 ho hg; obtain ⟨v1A, v1c, rfl, _⟩ := own_slice ho; have HPJ := Lib.hid (putI_more HPK.out ⟨⟨kb, tb, ub, ob, mb, gb⟩, B4, m4, d4, l5⟩ ho hg); have HPJQ1 := at_cell (i := 1) HPJ.out.2.1 rfl; have HPJQ0 := at_cell (i := 0) HPJ.out.2.1 rfl; have HPJQ2 := at_cell (i := 2) HPJ.out.2.1 rfl; have HPJQ3 := at_cell (i := 3) HPJ.out.2.1 rfl; have HPJQ4 := at_cell (i := 4) HPJ.out.2.1 rfl; have HPJQ5 := at_cell (i := 5) HPJ.out.2.1 rfl; have HPJQ6 := at_cell (i := 6) HPJ.out.2.1 rfl; clear ho hg)
              exact ⟨⟨i + 1, zs ++ [⟨⟨kb, tb, ub, ob, mb, gb⟩, B4, m4, d4, l5⟩], false, by omega, by go_num, rfl, HPN.out, by have := HZL.out; simp; omega, HPJ.out⟩, by simp [intOf]; omega⟩
      · obtain rfl : i = n := by omega
        have e0 : S.drop i = [] := List.drop_of_length_le (by rw [HL.out]; omega)
        rw [e0] at hp
        clear e0
        cases laid with
        | true =>
          obtain ⟨A', c', hsl, hrc, hac, hbw⟩ := HEND.out wr _ zs hpi (by rw [← hp]; exact (List.append_nil zs).symm)
          have HSL := Lib.hid hsl
          have HRC := Lib.hid hrc
          have HAC := Lib.hid hac
          have HBW := Lib.hid hbw
          clear hp hpi hzl hrc hac hbw hsl
          go_wp2
          go_ret
          exact ⟨A', c', congrArg Ending.returned HSL.out, HRC.out, HAC.out, HBW.out⟩
        | false =>
          have HPN : Hid (zs ++ [⟨⟨2, t, u, o, m, g⟩, A4, n4, c4, l4⟩] = P) := hp
          clear hp hpi hzl
          go_wp2_with (at_builtin; refine wpList_append_many _ rfl (.tmp 60) (.tmp 62) 22 rfl (w.heap.size + 1) 35 i0 _ 7 88 Tryd.underlying22 ii0 iz0 iz1 iz2 rfl (by decide) _ (zs).length (rws (zs)) rfl (HPI.out.1.alloc _) (some ⟨wr.heap.size, 0, none⟩) 1 1 (wr.heap.size + 1) (rws [⟨⟨2, t, u, o, m, g⟩, A4, n4, c4, l4⟩]) rfl (by simp) (reads_rec wr ⟨⟨2, t, u, o, m, g⟩, A4, n4, c4, l4⟩) (rws_one _) (by have := HLEN.out; simp at this ⊢; unfold maxLen; omega) (by have := HLEN.out; simp at this ⊢; omega) (by have := HPI.out.base; simp; omega) ?_; intro v1 w6 ho hg; obtain ⟨v1A, v1c, rfl, _⟩ := own_slice ho; have HPJ := Lib.hid (putI_more HPI.out ⟨⟨2, t, u, o, m, g⟩, A4, n4, c4, l4⟩ ho hg); have HPJQ1 := at_cell (i := 1) HPJ.out.2.1 rfl; have HPJQ0 := at_cell (i := 0) HPJ.out.2.1 rfl; have HPJQ2 := at_cell (i := 2) HPJ.out.2.1 rfl; have HPJQ3 := at_cell (i := 3) HPJ.out.2.1 rfl; have HPJQ4 := at_cell (i := 4) HPJ.out.2.1 rfl; have HPJQ5 := at_cell (i := 5) HPJ.out.2.1 rfl; have HPJQ6 := at_cell (i := 6) HPJ.out.2.1 rfl; clear ho hg)
          obtain ⟨A', c', hsl, hrc, hac, hbw⟩ := HEND.out w6 _ _ HPJ.out HPN.out
          go_ret
          exact ⟨A', c', congrArg Ending.returned hsl, hrc, hac, hbw⟩
  · have hP : put1 Rw.k Rw.t S x = S := by
      unfold put1
      rw [if_neg (show ¬ x.k = 1 from hk1), if_neg (show ¬ x.k = 2 from hk2)]
    rw [hP, hl0]
    have d1 : (x.r.kind != 1) = true := by rw [bne_iff_ne]; exact hk1
    have d2 : (x.r.kind != 2) = true := by rw [bne_iff_ne]; exact hk2
    have HB := Lib.hid ((Below.refl w.heap.size w).alloc (Nat.le_refl _) (.cells #[.int .i64 x.r.kind, .string (tx x.r.target), .int .u64 x.r.rule, .slice x.A x.n x.c, .int .u64 x.r.out, .int .u64 x.r.time, .string (tx x.r.tag)] 35))
    have HR2 := Lib.hid ((h.below HB.out).more HB.out.size)
    have b0 := one_new w (.cells #[.int .i64 x.r.kind, .string (tx x.r.target), .int .u64 x.r.rule, .slice x.A x.n x.c, .int .u64 x.r.out, .int .u64 x.r.time, .string (tx x.r.tag)] 35)
    have HAH := Lib.hid hA
    obtain ⟨⟨k, t, u, o, m, g⟩, A4, n4, c4, l4⟩ := x
    unfold Rw.val rcv rsv
    simp only at d1 d2 HB HR2 b0 ⊢
    have a0 := at_cell (i := 0) b0 rfl
    clear h hf hx hr hA hP b0 hk1 hk2 hl0 HEND H1 HL HF HXF
    go_enter Tryd.func24, Tryd.ntmps24
    go_wp2
    go_ret
    exact ⟨A, c, rfl, HR2.out, HAH.out, HB.out⟩

end Go.Proofs.YtgioknppnfencaaDoor

/- The document's fold. -/
namespace Go.Proofs.YtgioknppnfencaaDoor
open Go.RowKit

set_option maxRecDepth 100000 in
set_option maxHeartbeats 1000000 in
theorem rof_any (A : Option Addr) (n c : Nat) (xs : List Rw) (hn : n ≤ 100000) (hf : ∀ x ∈ xs, x.t.length ≤ maxLen) (w : World) (h : Recs w w.heap.size A n xs) :
    Calls Tryd.prog 9 #[.slice A n c] w fun e w' => ∃ A' c', e = .returned (.slice A' (fo Rw.k Rw.t xs).length c') ∧ Recs w' w'.heap.size A' (fo Rw.k Rw.t xs).length (fo Rw.k Rw.t xs) ∧ Below w.heap.size w w' := by
  have hl0 : xs.length = n := h.len
  have HL := Lib.hid hl0
  have H1 := Lib.hid h
  have HF := Lib.hid hf
  have hb0 := (Below.refl w.heap.size w).alloc (Nat.le_refl _) (.cells #[] 35)
  have HST : Hid (∃ (i : Nat) (A' : Option Addr) (c' : Nat), i ≤ n ∧ Value.int .i64 0 = .int .i64 (i : Int) ∧ Value.slice (some ⟨w.heap.size, 0, none⟩) 0 0 = .slice A' (fo Rw.k Rw.t (xs.take i)).length c' ∧ Recs (w.alloc (.cells #[] 35)) (w.alloc (.cells #[] 35)).heap.size A' (fo Rw.k Rw.t (xs.take i)).length (fo Rw.k Rw.t (xs.take i)) ∧ (A' = none → c' = 0) ∧ Below w.heap.size w (w.alloc (.cells #[] 35))) :=
    ⟨0, some ⟨w.heap.size, 0, none⟩, 0, Nat.zero_le _, rfl, rfl, Recs.nil _ _ _, (fun h => by cases h), hb0⟩
  clear h hf hb0
  go_enter Tryd.func9, Tryd.ntmps9
  go_wp2
  go_loopw [3, 4] (fun va idx wr => ∃ (i : Nat) (A' : Option Addr) (c' : Nat), i ≤ n ∧ idx = .int .i64 (i : Int) ∧ va = .slice A' (fo Rw.k Rw.t (xs.take i)).length c' ∧ Recs wr wr.heap.size A' (fo Rw.k Rw.t (xs.take i)).length (fo Rw.k Rw.t (xs.take i)) ∧ (A' = none → c' = 0) ∧ Below w.heap.size w wr) (fun _ idx _ => n - (intOf idx).toNat)
  case atStart => exact HST.out
  case round =>
    obtain ⟨i, A', c', hi, rfl, rfl, hrc, hac, hb⟩ := hrel
    have HRC := Lib.hid hrc
    have HAC := Lib.hid hac
    have HB := Lib.hid hb
    by_cases hlt : i < n
    · obtain ⟨x, hx⟩ : ∃ x, xs[i]? = some x := ⟨_, List.getElem?_eq_getElem (by rw [HL.out]; exact hlt)⟩
      have hm := List.mem_of_getElem? hx
      obtain ⟨ad, rfl, _, k0, k1, k2, k3, k4, k5, k6⟩ := recs_cells (H1.out.below hb).1 i x hx
      have hrx := (H1.out.2 x hm)
      have hlen : (fo Rw.k Rw.t (xs.take i)).length ≤ 100000 := by
        have h1 := fo_len (k := Rw.k) (t := Rw.t) (xs.take i)
        rw [List.length_take] at h1
        omega
      have HQ := Lib.hid (refput_any A' _ c' (fo Rw.k Rw.t (xs.take i)) x hlen (fun s hs => HF.out s (List.mem_of_mem_take (fo_mem hs).1)) (HF.out x hm) wr hrc ⟨(hrx.1.below hb).more hb.size, hrx.2⟩ hac)
      rw [← fo_snoc hx] at HQ
      generalize fo Rw.k Rw.t (xs.take i) = S at *
      obtain ⟨⟨k, t, u, o, m, g⟩, A4, n4, c4, l4⟩ := x
      unfold Rw.val rcv rsv at HQ
      simp only at k0 k1 k2 k3 k4 k5 k6 HQ
      have hi0 : (0 : Int) ≤ (i : Int) := by omega
      have hi1 : (i : Int) < (n : Int) := by omega
      clear hx hm hrx hlen hrc hac hb
      go_wp2_with (go_at_call 24; refine HQ.out.mono ?_; rintro e w3 ⟨A5, c5, rfl, hrc3, hac3, hb3⟩; have HRC3 := Lib.hid hrc3; have HAC3 := Lib.hid hac3; have HB3 := Lib.hid (HB.out.trans (hb3.mono HB.out.size)); clear hrc3 hac3 hb3)
      exact ⟨⟨i + 1, A5, c5, by omega, by go_num, rfl, HRC3.out, HAC3.out, HB3.out⟩, by simp [intOf]; omega⟩
    · obtain rfl : i = n := by omega
      have e : xs.take i = xs := List.take_of_length_le (by rw [HL.out]; omega)
      rw [e] at HRC ⊢
      clear e hrc hac hb
      go_wp2
      go_ret
      exact ⟨A', c', rfl, HRC.out, HB.out⟩

end Go.Proofs.YtgioknppnfencaaDoor

/- DumpTexts: what both answer of whichever records; the law. -/
namespace Go.Proofs.YtgioknppnfencaaDoor
open Go.RowKit

/-- What both answer of records that say so, wherever they lie. -/
theorem texts_any (xs : List Rw) (hn : xs.length ≤ 30) (hg : ∀ x ∈ xs, LGood x) : ∃ (t : ByteArray) (ec : Int),
    (∀ (A : Option Addr) (n c : Nat) (W : World), Laid W → PowTab W → Recs W W.heap.size A n xs → Calls Tryd.prog 7 #[.slice A n c] W fun e w' => e = .returned (.tuple #[.string t, .int .i64 ec]) ∧ Below W.heap.size W w') ∧
    (∀ (A : Option Addr) (n c : Nat) (W : World), Recs W W.heap.size A n xs → Calls Tryd.prog 8 #[.slice A n c] W fun e w' => e = .returned (.tuple #[.string t, .int .i64 ec]) ∧ Below W.heap.size W w') ∧
    ((OkT xs ∧ t = tx (seald (txt xs)) ∧ ec = 0) ∨ (¬ OkT xs ∧ ec = 1)) := by
  by_cases hok : OkT xs
  · refine ⟨tx (seald (txt xs)), 0, fun A n c W hl hp h => ?_, fun A n c W h => ?_, .inl ⟨hok, rfl, rfl⟩⟩
    · refine (dtext_any A n c xs (by rw [← h.len]; exact hn) hg W hl hp h).mono fun e w' ⟨ha, hb⟩ => ⟨?_, hb⟩
      rcases ha with ⟨_, he⟩ | ⟨hno, _⟩
      · exact he
      · exact absurd hok hno
    · refine (rtext_any A n c xs (by rw [← h.len]; exact hn) hg W h).mono fun e w' ⟨ha, hb⟩ => ⟨?_, hb⟩
      rcases ha with ⟨_, he⟩ | ⟨hno, _⟩
      · exact he
      · exact absurd hok hno
  · refine ⟨{ data := #[] }, 1, fun A n c W hl hp h => ?_, fun A n c W h => ?_, .inr ⟨hok, rfl⟩⟩
    · refine (dtext_any A n c xs (by rw [← h.len]; exact hn) hg W hl hp h).mono fun e w' ⟨ha, hb⟩ => ⟨?_, hb⟩
      rcases ha with ⟨hyes, _⟩ | ⟨_, he⟩
      · exact absurd hyes hok
      · exact he
    · refine (rtext_any A n c xs (by rw [← h.len]; exact hn) hg W h).mono fun e w' ⟨ha, hb⟩ => ⟨?_, hb⟩
      rcases ha with ⟨hyes, _⟩ | ⟨_, he⟩
      · exact absurd hyes hok
      · exact he

set_option maxRecDepth 100000 in
set_option maxHeartbeats 4000000 in
theorem dtexts_any (A : Option Addr) (n c : Nat) (xs : List Rw) (hn : n ≤ maxLen) (hf : ∀ x ∈ xs, (Fits x.r x.l ∧ x.n ≤ maxLen) ∧ Nums x.r x.l) (w : World) (hl : Laid w) (hp : PowTab w) (h : Recs w w.heap.size A n xs) :
    Calls Tryd.prog 3 #[.slice A n c] w fun e w' => e = .returned (.bool true) ∧ Below w.heap.size w w' := by
  have HG := Lib.hid (greats_any A n c xs hn (fun x hx => (hf x hx).1) w h)
  have HLA := Lib.hid hl
  have HPO := Lib.hid hp
  have HFX := Lib.hid (fun (W : World) (hb : Below w.heap.size w W) => dfixed_any W (HLA.out.below hb))
  by_cases gs : smalls xs
  · have GS := Lib.hid gs
    have hln : xs.length ≤ 30 := gs.2
    have hgd : ∀ x ∈ xs, LGood x := fun x hx => ⟨(hf x hx).1.1, (hf x hx).2, gs.1 x hx⟩
    have hn30 : n ≤ 30 := by rw [← h.len]; exact hln
    have hfl : (fo Rw.k Rw.t xs).length ≤ 30 := Nat.le_trans (fo_len xs) hln
    obtain ⟨t1, e1, hd1, hr1, _⟩ := texts_any xs hln hgd
    obtain ⟨t2, e2, hd2, hr2, _⟩ := texts_any (fo Rw.k Rw.t xs) hfl (fun x hx => hgd x (fo_mem hx).1)
    have HD1 := Lib.hid (fun (W : World) (hb : Below w.heap.size w W) => hd1 A n c W (HLA.out.below hb) (HPO.out.below hb) ((h.below hb).more hb.size))
    have HR1 := Lib.hid (fun (W : World) (hb : Below w.heap.size w W) => hr1 A n c W ((h.below hb).more hb.size))
    have HOF := Lib.hid (fun (W : World) (hb : Below w.heap.size w W) => rof_any A n c xs (by omega) (fun x hx => (hf x hx).1.1.1) W ((h.below hb).more hb.size))
    have HD2 := Lib.hid hd2
    have HR2 := Lib.hid hr2
    obtain ⟨S, hS⟩ : ∃ S, S = fo Rw.k Rw.t xs := ⟨_, rfl⟩
    rw [← hS] at HOF HD2 HR2
    obtain ⟨m, hm⟩ : ∃ m, m = S.length := ⟨_, rfl⟩
    rw [← hm] at HOF
    have hb1 : (t1.toList == t1.toList) = true := beq_self_eq_true _
    have hb2 : (t2.toList == t2.toList) = true := beq_self_eq_true _
    clear hd1 hr1 hd2 hr2 hgd hf h hl hp gs hS hm hln hfl
    go_enter Tryd.func3, Tryd.ntmps3
    go_wp2_with fail
    refine HG.out.mono ?_
    rintro e w1 ⟨he, hb1⟩
    obtain rfl := he.no (fun h => h GS.out)
    have HB1 := Lib.hid hb1
    clear hb1 he
    go_wp2_with fail
    refine (HD1.out _ HB1.out).mono ?_
    rintro e w2 ⟨rfl, hb2⟩
    have HB2 := Lib.hid (HB1.out.trans (hb2.mono HB1.out.size))
    clear hb2
    go_wp2_with fail
    refine (HR1.out _ HB2.out).mono ?_
    rintro e w3 ⟨rfl, hb3⟩
    have HB3 := Lib.hid (HB2.out.trans (hb3.mono HB2.out.size))
    clear hb3
    go_wp2_with fail
    refine (HOF.out _ HB3.out).mono ?_
    rintro e w4 ⟨A4, c4, rfl, hrc4, hb4⟩
    have HRC4 := Lib.hid hrc4
    have HB4 := Lib.hid (HB3.out.trans (hb4.mono HB3.out.size))
    clear hb4 hrc4
    go_wp2_with fail
    refine (HD2.out A4 m c4 w4 (HLA.out.below HB4.out) (HPO.out.below HB4.out) HRC4.out).mono ?_
    rintro e w5 ⟨rfl, hb5⟩
    have HB5 := Lib.hid (HB4.out.trans (hb5.mono HB4.out.size))
    clear hb5
    go_wp2_with fail
    refine (HOF.out _ HB5.out).mono ?_
    rintro e w6 ⟨A6, c6, rfl, hrc6, hb6⟩
    have HRC6 := Lib.hid hrc6
    have HB6 := Lib.hid (HB5.out.trans (hb6.mono HB5.out.size))
    clear hb6 hrc6
    go_wp2_with fail
    refine (HR2.out A6 m c6 w6 HRC6.out).mono ?_
    rintro e w7 ⟨rfl, hb7⟩
    have HB7 := Lib.hid (HB6.out.trans (hb7.mono HB6.out.size))
    clear hb7
    go_wp2_with fail
    refine (HFX.out _ HB7.out).mono ?_
    rintro e w8 ⟨rfl, hb8⟩
    have HB8 := Lib.hid (HB7.out.trans (hb8.mono HB7.out.size))
    clear hb8
    go_wp2
    go_ret
    exact ⟨rfl, HB8.out⟩
  · have GS := Lib.hid gs
    clear hf h hl hp gs
    go_enter Tryd.func3, Tryd.ntmps3
    go_wp2_with fail
    refine HG.out.mono ?_
    rintro e w1 ⟨he, hb1⟩
    obtain rfl := he.yes GS.out
    have HB1 := Lib.hid hb1
    clear hb1 he
    go_wp2_with fail
    refine (HFX.out _ HB1.out).mono ?_
    rintro e w8 ⟨rfl, hb8⟩
    have HB8 := Lib.hid (HB1.out.trans (hb8.mono HB1.out.size))
    clear hb8
    go_wp2
    go_ret
    exact ⟨rfl, HB8.out⟩

end Go.Proofs.YtgioknppnfencaaDoor

/- The document's All: are records the same? -/
namespace Go.Proofs.YtgioknppnfencaaDoor
open Go.RowKit

theorem say_eq {x y : Rw} : x.say = y.say ↔ x.r = y.r ∧ x.l = y.l := by
  unfold Rw.say
  exact Prod.mk.injEq .. ▸ Iff.rfl

set_option maxRecDepth 100000 in
set_option maxHeartbeats 2000000 in
theorem rall_any (A B : Option Addr) (n m c d : Nat) (xs ys : List Rw) (hn : n ≤ maxLen) (hm : m ≤ maxLen) (hs : ∀ x ∈ xs, x.n ≤ 1000000) (w : World) (h1 : Recs w w.heap.size A n xs) (h2 : Recs w w.heap.size B m ys) :
    Calls Tryd.prog 10 #[.slice A n c, .slice B m d] w fun e w' => Tells (xs.map Rw.say = ys.map Rw.say) e ∧ Below w.heap.size w w' := by
  have HL1 : Hid (xs.length = n) := h1.len
  have HL2 : Hid (ys.length = m) := h2.len
  have H1 := Lib.hid h1
  have H2 := Lib.hid h2
  have HS := Lib.hid hs
  unfold maxLen at hn hm
  clear h1 h2 hs
  by_cases hnm : n = m
  · subst hnm
    have hd0 : decide ((n : Int) = (n : Int)) = true := by simp
    have hd1 : ((n : Int) != (n : Int)) = false := by simp
    go_enter Tryd.func10, Tryd.ntmps10
    go_wp2
    go_loopw [5] (fun idx wr => ∃ i : Nat, i ≤ n ∧ idx = .int .i64 (i : Int) ∧ (xs.take i).map Rw.say = (ys.take i).map Rw.say ∧ Below w.heap.size w wr) (fun idx wr => n - (intOf idx).toNat)
    case atStart => exact ⟨0, by omega, rfl, by simp, Below.refl _ _⟩
    case round =>
      obtain ⟨i, hi, rfl, htk, hb⟩ := hrel
      have HTK := Lib.hid htk
      have HBR := Lib.hid hb
      clear htk
      by_cases hlt : i < n
      · obtain ⟨x, hx⟩ : ∃ x, xs[i]? = some x := ⟨_, List.getElem?_eq_getElem (by rw [HL1.out]; exact hlt)⟩
        obtain ⟨y, hy⟩ : ∃ y, ys[i]? = some y := ⟨_, List.getElem?_eq_getElem (by rw [HL2.out]; exact hlt)⟩
        have hmx := List.mem_of_getElem? hx
        have hmy := List.mem_of_getElem? hy
        have hnx := HS.out x hmx
        have hrx := (H1.out.2 x hmx).1
        have hry := (H2.out.2 y hmy).1
        obtain ⟨ad, rfl, hab, k0, k1, k2, k3, k4, k5, k6⟩ := recs_cells (H1.out.below hb).1 i x hx
        obtain ⟨ad', rfl, hab', j0, j1, j2, j3, j4, j5, j6⟩ := recs_cells (H2.out.below hb).1 i y hy
        have HX : Hid (x.r = y.r ∧ x.l = y.l → (xs.take (i + 1)).map Rw.say = (ys.take (i + 1)).map Rw.say) := fun he => by
          rw [List.take_add_one, List.take_add_one, hx, hy, List.map_append, List.map_append, HTK.out]
          simp [say_eq.2 he]
        have HNO : Hid (¬ (x.r = y.r ∧ x.l = y.l) → ¬ xs.map Rw.say = ys.map Rw.say) := fun he h => he (say_eq.1 (by
          have e := congrArg (fun l : List (Rc × List Dp) => l[i]?) h
          simp only [List.getElem?_map, hx, hy, Option.map_some] at e
          exact Option.some.inj e))
        obtain ⟨⟨k, t, u, o, m, g⟩, A4, n4, c4, l4⟩ := x
        obtain ⟨⟨kb, tb, ub, ob, mb, gb⟩, B4, m4, d4, l5⟩ := y
        simp only at k0 k1 k2 k3 k4 k5 k6 j0 j1 j2 j3 j4 j5 j6 hnx hrx hry
        have HRX := Lib.hid hrx
        have HRY := Lib.hid hry
        have HNX := Lib.hid hnx
        have hi0 : (0 : Int) ≤ (i : Int) := by omega
        have hi1 : (i : Int) < (n : Int) := by omega
        clear hx hy hmx hmy hnx hrx hry hb
        go_wp2_with fail
        by_cases he : (⟨k, t, u, o, m, g⟩ : Rc) = ⟨kb, tb, ub, ob, mb, gb⟩ ∧ l4 = l5
        · have HE := Lib.hid he
          clear he
          refine wp_region_held (S := fun v => Below wr.heap.size wr v) (by kernel_rfl) ?_
          have hS : Below wr.heap.size wr wr.drew := (Below.refl _ wr).drew
          refine h_take 0 (.slice (some ad) n c) rfl (by kernel_rfl) (by kernel_rfl) (by kernel_rfl) (fun _ _ _ h => h) (by kernel_rfl) hS (fun _ _ => by kernel_rfl) ?_
          refine h_take 1 (.int .i64 (i : Int)) rfl (by kernel_rfl) (by kernel_rfl) (by kernel_rfl) (fun _ _ _ h => h) (by kernel_rfl) hS (fun _ _ => by kernel_rfl) ?_
          refine h_take 2 (.pointer (some (ad.add (i * 7)))) rfl (by kernel_rfl) (by kernel_rfl) (by kernel_rfl) (fun _ _ _ h => h) (by kernel_rfl) hS (by intro v hv; go_simp) ?_
          refine h_take 3 (.agg #[.int .i64 k, .string (tx t), .int .u64 u, .slice A4 n4 c4, .int .u64 o, .int .u64 m, .string (tx g)]) rfl (by kernel_rfl) (by kernel_rfl) (by kernel_rfl) (fun _ _ _ h => h) (by kernel_rfl) hS (by intro v hv; have q0 := (hv.cell (p := ad.add (i * 7)) (show (ad.add (i * 7)).block < _ by rw [block_of_add]; have h1 := HBR.out.size; omega)).trans k0; have q1 := (hv.cell (p := ⟨(ad.add (i * 7)).block, (ad.add (i * 7)).off + 1, none⟩) (show (ad.add (i * 7)).block < _ by rw [block_of_add]; have h1 := HBR.out.size; omega)).trans k1; have q2 := (hv.cell (p := ⟨(ad.add (i * 7)).block, (ad.add (i * 7)).off + 2, none⟩) (show (ad.add (i * 7)).block < _ by rw [block_of_add]; have h1 := HBR.out.size; omega)).trans k2; have q3 := (hv.cell (p := ⟨(ad.add (i * 7)).block, (ad.add (i * 7)).off + 3, none⟩) (show (ad.add (i * 7)).block < _ by rw [block_of_add]; have h1 := HBR.out.size; omega)).trans k3; have q4 := (hv.cell (p := ⟨(ad.add (i * 7)).block, (ad.add (i * 7)).off + 4, none⟩) (show (ad.add (i * 7)).block < _ by rw [block_of_add]; have h1 := HBR.out.size; omega)).trans k4; have q5 := (hv.cell (p := ⟨(ad.add (i * 7)).block, (ad.add (i * 7)).off + 5, none⟩) (show (ad.add (i * 7)).block < _ by rw [block_of_add]; have h1 := HBR.out.size; omega)).trans k5; have q6 := (hv.cell (p := ⟨(ad.add (i * 7)).block, (ad.add (i * 7)).off + 6, none⟩) (show (ad.add (i * 7)).block < _ by rw [block_of_add]; have h1 := HBR.out.size; omega)).trans k6; go_simp; try rfl) ?_
          refine h_take 4 (.slice (some ad') n d) rfl (by kernel_rfl) (by kernel_rfl) (by kernel_rfl) (fun _ _ _ h => h) (by kernel_rfl) hS (fun _ _ => by kernel_rfl) ?_
          refine h_take 5 (.int .i64 (i : Int)) rfl (by kernel_rfl) (by kernel_rfl) (by kernel_rfl) (fun _ _ _ h => h) (by kernel_rfl) hS (fun _ _ => by kernel_rfl) ?_
          refine h_take 6 (.pointer (some (ad'.add (i * 7)))) rfl (by kernel_rfl) (by kernel_rfl) (by kernel_rfl) (fun _ _ _ h => h) (by kernel_rfl) hS (by intro v hv; go_simp) ?_
          refine h_take 7 (.agg #[.int .i64 kb, .string (tx tb), .int .u64 ub, .slice B4 m4 d4, .int .u64 ob, .int .u64 mb, .string (tx gb)]) rfl (by kernel_rfl) (by kernel_rfl) (by kernel_rfl) (fun _ _ _ h => h) (by kernel_rfl) hS (by intro v hv; have q0 := (hv.cell (p := ad'.add (i * 7)) (show (ad'.add (i * 7)).block < _ by rw [block_of_add]; have h1 := HBR.out.size; omega)).trans j0; have q1 := (hv.cell (p := ⟨(ad'.add (i * 7)).block, (ad'.add (i * 7)).off + 1, none⟩) (show (ad'.add (i * 7)).block < _ by rw [block_of_add]; have h1 := HBR.out.size; omega)).trans j1; have q2 := (hv.cell (p := ⟨(ad'.add (i * 7)).block, (ad'.add (i * 7)).off + 2, none⟩) (show (ad'.add (i * 7)).block < _ by rw [block_of_add]; have h1 := HBR.out.size; omega)).trans j2; have q3 := (hv.cell (p := ⟨(ad'.add (i * 7)).block, (ad'.add (i * 7)).off + 3, none⟩) (show (ad'.add (i * 7)).block < _ by rw [block_of_add]; have h1 := HBR.out.size; omega)).trans j3; have q4 := (hv.cell (p := ⟨(ad'.add (i * 7)).block, (ad'.add (i * 7)).off + 4, none⟩) (show (ad'.add (i * 7)).block < _ by rw [block_of_add]; have h1 := HBR.out.size; omega)).trans j4; have q5 := (hv.cell (p := ⟨(ad'.add (i * 7)).block, (ad'.add (i * 7)).off + 5, none⟩) (show (ad'.add (i * 7)).block < _ by rw [block_of_add]; have h1 := HBR.out.size; omega)).trans j5; have q6 := (hv.cell (p := ⟨(ad'.add (i * 7)).block, (ad'.add (i * 7)).off + 6, none⟩) (show (ad'.add (i * 7)).block < _ by rw [block_of_add]; have h1 := HBR.out.size; omega)).trans j6; go_simp; try rfl) ?_
          refine h_one 8 rfl (by kernel_rfl) (by kernel_rfl) (fun K hK => ?_)
          go_simp
          refine (rsame_any ⟨k, t, u, o, m, g⟩ ⟨kb, tb, ub, ob, mb, gb⟩ A4 B4 n4 m4 c4 d4 l4 l5 HNX.out _ ((HRX.out.below HBR.out.drew).more HBR.out.drew.size) ((HRY.out.below HBR.out.drew).more HBR.out.drew.size)).mono ?_
          rintro e w3 ⟨q, hq, rfl, hb3⟩
          obtain rfl : q = true := hq.2 HE.out
          have HB3 := Lib.hid (HBR.out.drew.trans (hb3.mono HBR.out.drew.size))
          have hS3 : Below wr.heap.size wr w3 := hS.trans (hb3.mono hS.size)
          clear hb3 hq
          refine hK _ _ hS3 ?_
          clear hK K
          refine h_take 9 (.bool false) rfl (by kernel_rfl) (by kernel_rfl) (by kernel_rfl) (fun _ _ _ h => h) (by kernel_rfl) hS3 (by intro v hv; go_simp) ?_
          refine wpAnyH_done (by kernel_rfl) ?_ _
          go_simp
          go_wp2
          exact ⟨⟨i + 1, by omega, by go_num, HX.out HE.out, HB3.out⟩, by simp [intOf]; omega⟩
        · have HE := Lib.hid he
          clear he
          refine wp_region_held (S := fun v => Below wr.heap.size wr v) (by kernel_rfl) ?_
          have hS : Below wr.heap.size wr wr.drew := (Below.refl _ wr).drew
          refine h_take 0 (.slice (some ad) n c) rfl (by kernel_rfl) (by kernel_rfl) (by kernel_rfl) (fun _ _ _ h => h) (by kernel_rfl) hS (fun _ _ => by kernel_rfl) ?_
          refine h_take 1 (.int .i64 (i : Int)) rfl (by kernel_rfl) (by kernel_rfl) (by kernel_rfl) (fun _ _ _ h => h) (by kernel_rfl) hS (fun _ _ => by kernel_rfl) ?_
          refine h_take 2 (.pointer (some (ad.add (i * 7)))) rfl (by kernel_rfl) (by kernel_rfl) (by kernel_rfl) (fun _ _ _ h => h) (by kernel_rfl) hS (by intro v hv; go_simp) ?_
          refine h_take 3 (.agg #[.int .i64 k, .string (tx t), .int .u64 u, .slice A4 n4 c4, .int .u64 o, .int .u64 m, .string (tx g)]) rfl (by kernel_rfl) (by kernel_rfl) (by kernel_rfl) (fun _ _ _ h => h) (by kernel_rfl) hS (by intro v hv; have q0 := (hv.cell (p := ad.add (i * 7)) (show (ad.add (i * 7)).block < _ by rw [block_of_add]; have h1 := HBR.out.size; omega)).trans k0; have q1 := (hv.cell (p := ⟨(ad.add (i * 7)).block, (ad.add (i * 7)).off + 1, none⟩) (show (ad.add (i * 7)).block < _ by rw [block_of_add]; have h1 := HBR.out.size; omega)).trans k1; have q2 := (hv.cell (p := ⟨(ad.add (i * 7)).block, (ad.add (i * 7)).off + 2, none⟩) (show (ad.add (i * 7)).block < _ by rw [block_of_add]; have h1 := HBR.out.size; omega)).trans k2; have q3 := (hv.cell (p := ⟨(ad.add (i * 7)).block, (ad.add (i * 7)).off + 3, none⟩) (show (ad.add (i * 7)).block < _ by rw [block_of_add]; have h1 := HBR.out.size; omega)).trans k3; have q4 := (hv.cell (p := ⟨(ad.add (i * 7)).block, (ad.add (i * 7)).off + 4, none⟩) (show (ad.add (i * 7)).block < _ by rw [block_of_add]; have h1 := HBR.out.size; omega)).trans k4; have q5 := (hv.cell (p := ⟨(ad.add (i * 7)).block, (ad.add (i * 7)).off + 5, none⟩) (show (ad.add (i * 7)).block < _ by rw [block_of_add]; have h1 := HBR.out.size; omega)).trans k5; have q6 := (hv.cell (p := ⟨(ad.add (i * 7)).block, (ad.add (i * 7)).off + 6, none⟩) (show (ad.add (i * 7)).block < _ by rw [block_of_add]; have h1 := HBR.out.size; omega)).trans k6; go_simp; try rfl) ?_
          refine h_take 4 (.slice (some ad') n d) rfl (by kernel_rfl) (by kernel_rfl) (by kernel_rfl) (fun _ _ _ h => h) (by kernel_rfl) hS (fun _ _ => by kernel_rfl) ?_
          refine h_take 5 (.int .i64 (i : Int)) rfl (by kernel_rfl) (by kernel_rfl) (by kernel_rfl) (fun _ _ _ h => h) (by kernel_rfl) hS (fun _ _ => by kernel_rfl) ?_
          refine h_take 6 (.pointer (some (ad'.add (i * 7)))) rfl (by kernel_rfl) (by kernel_rfl) (by kernel_rfl) (fun _ _ _ h => h) (by kernel_rfl) hS (by intro v hv; go_simp) ?_
          refine h_take 7 (.agg #[.int .i64 kb, .string (tx tb), .int .u64 ub, .slice B4 m4 d4, .int .u64 ob, .int .u64 mb, .string (tx gb)]) rfl (by kernel_rfl) (by kernel_rfl) (by kernel_rfl) (fun _ _ _ h => h) (by kernel_rfl) hS (by intro v hv; have q0 := (hv.cell (p := ad'.add (i * 7)) (show (ad'.add (i * 7)).block < _ by rw [block_of_add]; have h1 := HBR.out.size; omega)).trans j0; have q1 := (hv.cell (p := ⟨(ad'.add (i * 7)).block, (ad'.add (i * 7)).off + 1, none⟩) (show (ad'.add (i * 7)).block < _ by rw [block_of_add]; have h1 := HBR.out.size; omega)).trans j1; have q2 := (hv.cell (p := ⟨(ad'.add (i * 7)).block, (ad'.add (i * 7)).off + 2, none⟩) (show (ad'.add (i * 7)).block < _ by rw [block_of_add]; have h1 := HBR.out.size; omega)).trans j2; have q3 := (hv.cell (p := ⟨(ad'.add (i * 7)).block, (ad'.add (i * 7)).off + 3, none⟩) (show (ad'.add (i * 7)).block < _ by rw [block_of_add]; have h1 := HBR.out.size; omega)).trans j3; have q4 := (hv.cell (p := ⟨(ad'.add (i * 7)).block, (ad'.add (i * 7)).off + 4, none⟩) (show (ad'.add (i * 7)).block < _ by rw [block_of_add]; have h1 := HBR.out.size; omega)).trans j4; have q5 := (hv.cell (p := ⟨(ad'.add (i * 7)).block, (ad'.add (i * 7)).off + 5, none⟩) (show (ad'.add (i * 7)).block < _ by rw [block_of_add]; have h1 := HBR.out.size; omega)).trans j5; have q6 := (hv.cell (p := ⟨(ad'.add (i * 7)).block, (ad'.add (i * 7)).off + 6, none⟩) (show (ad'.add (i * 7)).block < _ by rw [block_of_add]; have h1 := HBR.out.size; omega)).trans j6; go_simp; try rfl) ?_
          refine h_one 8 rfl (by kernel_rfl) (by kernel_rfl) (fun K hK => ?_)
          go_simp
          refine (rsame_any ⟨k, t, u, o, m, g⟩ ⟨kb, tb, ub, ob, mb, gb⟩ A4 B4 n4 m4 c4 d4 l4 l5 HNX.out _ ((HRX.out.below HBR.out.drew).more HBR.out.drew.size) ((HRY.out.below HBR.out.drew).more HBR.out.drew.size)).mono ?_
          rintro e w3 ⟨q, hq, rfl, hb3⟩
          obtain rfl : q = false := by rw [← Bool.not_eq_true, hq]; exact HE.out
          have HB3 := Lib.hid (HBR.out.drew.trans (hb3.mono HBR.out.drew.size))
          have hS3 : Below wr.heap.size wr w3 := hS.trans (hb3.mono hS.size)
          clear hb3 hq
          refine hK _ _ hS3 ?_
          clear hK K
          refine h_take 9 (.bool true) rfl (by kernel_rfl) (by kernel_rfl) (by kernel_rfl) (fun _ _ _ h => h) (by kernel_rfl) hS3 (by intro v hv; go_simp) ?_
          refine wpAnyH_done (by kernel_rfl) ?_ _
          go_simp
          go_wp2
          go_ret
          exact ⟨tells_false (HNO.out HE.out), HB3.out⟩
      · obtain rfl : i = n := by omega
        have htk := HTK.out
        rw [List.take_of_length_le (by rw [HL1.out]; omega), List.take_of_length_le (by rw [HL2.out]; omega)] at htk
        have HTK2 := Lib.hid htk
        clear htk hb
        go_wp2
        go_ret
        exact ⟨tells_true HTK2.out, HBR.out⟩
  · have hd0 : decide ((n : Int) = (m : Int)) = false := decide_eq_false (by omega)
    have hd1 : ((n : Int) != (m : Int)) = true := by rw [bne_iff_ne]; omega
    have HNE : Hid (¬ xs.map Rw.say = ys.map Rw.say) := fun h => hnm (by have := congrArg List.length h; simpa [HL1.out, HL2.out] using this)
    go_enter Tryd.func10, Tryd.ntmps10
    go_wp2
    go_ret
    exact ⟨tells_false HNE.out, Below.refl _ _⟩

end Go.Proofs.YtgioknppnfencaaDoor

/- Unlike states have unlike texts: mathematics. -/
namespace Go.Proofs.YtgioknppnfencaaDoor
open Go.RowKit

theorem cut_first {c : UInt8} : ∀ {a b r s : List UInt8}, c ∉ a → c ∉ b → a ++ c :: r = b ++ c :: s → a = b ∧ r = s
  | [], [], r, s, _, _, h => by simp at h; exact ⟨rfl, h⟩
  | [], y :: b, r, s, _, hb, h => by
    simp at h
    exact absurd (by simp [h.1]) hb
  | x :: a, [], r, s, ha, _, h => by
    simp at h
    exact absurd (by simp [h.1]) ha
  | x :: a, y :: b, r, s, ha, hb, h => by
    simp only [List.cons_append, List.cons.injEq] at h
    obtain ⟨h1, h2⟩ := cut_first (fun h' => ha (List.mem_cons_of_mem _ h')) (fun h' => hb (List.mem_cons_of_mem _ h')) h.2
    exact ⟨by rw [h.1, h1], h2⟩
theorem lines_one {c : UInt8} : ∀ {la lb : List (List UInt8)}, (∀ a ∈ la, c ∉ a) → (∀ b ∈ lb, c ∉ b) → la.flatMap (fun a => a ++ [c]) = lb.flatMap (fun a => a ++ [c]) → la = lb
  | [], [], _, _, _ => rfl
  | [], b :: lb, _, _, h => by simp at h
  | a :: la, [], _, _, h => by simp at h
  | a :: la, b :: lb, ha, hb, h => by
    simp only [List.flatMap_cons, List.append_assoc, List.cons_append, List.nil_append] at h
    obtain ⟨h1, h2⟩ := cut_first (ha a (by simp)) (hb b (by simp)) h
    rw [h1, lines_one (fun x hx => ha x (List.mem_cons_of_mem _ hx)) (fun x hx => hb x (List.mem_cons_of_mem _ hx)) h2]
def decV (l : List UInt8) : Nat := l.foldl (fun n b => n * 10 + (b.toNat - 48)) 0
theorem dec_digit {m : Nat} (h : m < 10) : (UInt8.ofNat (48 + m)).toNat - 48 = m := by
  have : ∀ k : Fin 10, (UInt8.ofNat (48 + k.val)).toNat - 48 = k.val := by decide
  exact this ⟨m, h⟩
theorem decV_dec (u : Nat) : decV (Lib.decDigits u) = u := by
  induction u using Nat.strongRecOn with
  | _ u ih =>
    by_cases h : u < 10
    · rw [dec_small h]
      show 0 * 10 + ((UInt8.ofNat (48 + u)).toNat - 48) = u
      rw [dec_digit h]
      omega
    · rw [dec_big h, dec_small (show u % 10 < 10 by omega)]
      unfold decV
      rw [List.foldl_append]
      have h2 := ih (u / 10) (by omega)
      unfold decV at h2
      rw [h2]
      show u / 10 * 10 + ((UInt8.ofNat (48 + u % 10)).toNat - 48) = u
      rw [dec_digit (by omega)]
      omega
theorem dec_one {u v : Nat} (h : Lib.decDigits u = Lib.decDigits v) : u = v := by rw [← decV_dec u, h, decV_dec]
theorem hexl_one {a b : Nat} (ha : a < 18446744073709551616) (hb : b < 18446744073709551616) (h : hexl a 16 = hexl b 16) : a = b := by
  have h1 := rd_hexl a 16 0
  have h2 := rd_hexl b 16 0
  rw [h, h2] at h1
  have h3 := Option.some.inj h1
  omega
theorem eput_one {a b : List UInt8} (h : eput a = eput b) : a = b := by
  have h1 := eget_eput a
  rw [h, eget_eput b] at h1
  exact (Prod.mk.inj h1).1.symm
theorem hashw_one {d e : Dp} (hd : 0 ≤ d.hash ∧ d.hash < 18446744073709551616) (he : 0 ≤ e.hash ∧ e.hash < 18446744073709551616) (h : hashw d = hashw e) : d.hash = e.hash ∧ d.order = e.order := by
  unfold hashw at h
  have hl : (hexl d.hash.toNat 16).length = (hexl e.hash.toNat 16).length := by rw [hexl_len, hexl_len]
  obtain ⟨h1, h2⟩ := List.append_inj h hl
  have h3 := hexl_one (by omega) (by omega) h1
  refine ⟨by omega, ?_⟩
  cases hd2 : d.order <;> cases he2 : e.order <;> simp [hd2, he2] at h2 ⊢
theorem depws_one : ∀ {l m : List Dp}, (∀ d ∈ l, 0 ≤ d.hash ∧ d.hash < 18446744073709551616) → (∀ d ∈ m, 0 ≤ d.hash ∧ d.hash < 18446744073709551616) → l.flatMap depws = m.flatMap depws → l = m
  | [], [], _, _, _ => rfl
  | [], e :: m, _, _, h => by simp [depws] at h
  | d :: l, [], _, _, h => by simp [depws] at h
  | d :: l, e :: m, hl, hm, h => by
    simp only [List.flatMap_cons, depws, List.cons_append, List.nil_append, List.cons.injEq] at h
    obtain ⟨h1, h2, h3⟩ := h
    have h4 := eput_one h1
    obtain ⟨h5, h6⟩ := hashw_one (hl d (by simp)) (hm e (by simp)) h2
    have h7 := depws_one (fun x hx => hl x (List.mem_cons_of_mem _ hx)) (fun x hx => hm x (List.mem_cons_of_mem _ hx)) h3
    obtain ⟨dn, dh, dor⟩ := d
    obtain ⟨en, eh, eo⟩ := e
    simp only at h4 h5 h6
    rw [h4, h5, h6, h7]
theorem word_mem {t g : List UInt8} {zu zo zm : Nat} {l : List Dp} {x : List UInt8} (hx : x ∈ linews t zu zo zm g l) : ∀ b ∈ x, b ≠ 32 := fun b hb => by
  have he : ∀ {s : List UInt8}, b ∈ eput s → b ≠ 32 := fun h e => by
    have := (eput_mem h).1
    rw [e] at this
    exact absurd this (by decide)
  have hh : ∀ (h : Nat) (k : Nat), b ∈ hexl h k → b ≠ 32 := fun h k => by
    induction k with
    | zero => intro hb; simp [hexl] at hb
    | succ k ih =>
      intro hb
      rw [hexl, List.mem_cons] at hb
      rcases hb with rfl | hb
      · have : ∀ m : Fin 16, dig m.val ≠ 32 := by decide
        exact this ⟨h / 16 ^ k % 16, Nat.mod_lt _ (by omega)⟩
      · exact ih hb
  have hd : ∀ z : Nat, ∀ b ∈ Lib.decDigits z, b ≠ 32 := fun z => by
    have hd : ∀ m : Fin 10, UInt8.ofNat (48 + m.val) ≠ 32 := by decide
    induction z using Nat.strongRecOn with
    | _ z ih =>
      intro b hb
      by_cases h : z < 10
      · rw [dec_small h] at hb
        obtain rfl := List.mem_singleton.1 hb
        exact hd ⟨z, h⟩
      · rw [dec_big h, List.mem_append] at hb
        rcases hb with hb | hb
        · exact ih (z / 10) (by omega) b hb
        · exact ih (z % 10) (by omega) b hb
  rcases List.mem_append.1 hx with hx | hx
  · simp only [headws, List.mem_cons, List.not_mem_nil, or_false] at hx
    rcases hx with rfl | rfl | rfl | rfl | rfl
    · exact he hb
    · exact hh _ _ hb
    · exact hh _ _ hb
    · exact hd _ b hb
    · exact he hb
  · obtain ⟨d, _, hx⟩ := List.mem_flatMap.1 hx
    simp only [depws, List.mem_cons, List.not_mem_nil, or_false] at hx
    rcases hx with rfl | rfl
    · exact he hb
    · unfold hashw at hb
      rcases List.mem_append.1 hb with hb | hb
      · exact hh _ _ hb
      · split at hb
        · obtain rfl := List.mem_singleton.1 hb; decide
        · cases hb
theorem linews_ne (t g : List UInt8) (zu zo zm : Nat) (l : List Dp) : linews t zu zo zm g l ≠ [] := by simp [linews, headws]
/-- A record's line tells the record. -/
theorem ln_one {x y : Rw} (hx : LGood x) (hy : LGood y) (kx : lnOk x) (ky : lnOk y) (h : lnT x = lnT y) : x.say = y.say := by
  have hw : linews x.r.target x.r.rule.toNat x.r.out.toNat x.r.time.toNat x.r.tag x.l = linews y.r.target y.r.rule.toNat y.r.out.toNat y.r.time.toNat y.r.tag y.l := by
    have h1 := words_joinw _ (linews_ne x.r.target x.r.tag x.r.rule.toNat x.r.out.toNat x.r.time.toNat x.l) (fun w hw => word_mem hw)
    have h2 := words_joinw _ (linews_ne y.r.target y.r.tag y.r.rule.toNat y.r.out.toNat y.r.time.toNat y.l) (fun w hw => word_mem hw)
    unfold lnT at h
    rw [← h1, h, h2]
  obtain ⟨⟨k, t, u, o, m, g⟩, A, n, c, l⟩ := x
  obtain ⟨⟨k', t', u', o', m', g'⟩, A', n', c', l'⟩ := y
  obtain ⟨_, ⟨⟨u0, u1⟩, ⟨o0, o1⟩, ⟨m0, m1⟩, hd⟩, _⟩ := hx
  obtain ⟨_, ⟨⟨u0', u1'⟩, ⟨o0', o1'⟩, ⟨m0', m1'⟩, hd'⟩, _⟩ := hy
  have k1 := kx.1
  have k2 := ky.1
  simp only [linews, headws, List.cons_append, List.nil_append, List.cons.injEq] at hw
  simp only at u0 u1 o0 o1 m0 m1 u0' u1' o0' o1' m0' m1' k1 k2 hd hd'
  obtain ⟨w1, w2, w3, w4, w5, w6⟩ := hw
  have e1 := eput_one w1
  have e2 := hexl_one (by omega) (by omega) w2
  have e3 := hexl_one (by omega) (by omega) w3
  have e4 := dec_one w4
  have e5 := eput_one w5
  have e6 := depws_one hd hd' w6
  have f2 : u = u' := by omega
  have f3 : o = o' := by omega
  have f4 : m = m' := by omega
  unfold Rw.say
  simp only [k1, k2, e1, f2, f3, f4, e5, e6]
theorem line_no10 (x : Rw) : (10 : UInt8) ∉ lnT x := fun h => line_mem _ _ _ _ _ _ 10 h rfl
theorem lns_map (xs : List Rw) : lnsT xs = (xs.map lnT).flatMap (fun a => a ++ [10]) := by
  unfold lnsT
  rw [List.flatMap_map]
theorem hd_cut (n : Nat) (r : List UInt8) : hdT n ++ r = ([116, 101, 112, 104, 114, 97, 32] ++ Lib.decDigits n) ++ 10 :: r := by unfold hdT; simp
theorem maps_one : ∀ {X Y : List Rw}, (∀ x ∈ X, LGood x) → (∀ y ∈ Y, LGood y) → (∀ x ∈ X, lnOk x) → (∀ y ∈ Y, lnOk y) → X.map lnT = Y.map lnT → X.map Rw.say = Y.map Rw.say
  | [], [], _, _, _, _, _ => rfl
  | [], y :: Y, _, _, _, _, h => by simp at h
  | x :: X, [], _, _, _, _, h => by simp at h
  | x :: X, y :: Y, hx, hy, kx, ky, h => by
    simp only [List.map_cons, List.cons.injEq] at h ⊢
    exact ⟨ln_one (hx x (by simp)) (hy y (by simp)) (kx x (by simp)) (ky y (by simp)) h.1, maps_one (fun a ha => hx a (List.mem_cons_of_mem _ ha)) (fun a ha => hy a (List.mem_cons_of_mem _ ha)) (fun a ha => kx a (List.mem_cons_of_mem _ ha)) (fun a ha => ky a (List.mem_cons_of_mem _ ha)) h.2⟩
theorem lnT_say {x y : Rw} (h : x.say = y.say) : lnT x = lnT y := by
  obtain ⟨h1, h2⟩ := say_eq.1 h
  unfold lnT
  rw [h1, h2]
theorem maps_back : ∀ {X Y : List Rw}, X.map Rw.say = Y.map Rw.say → X.map lnT = Y.map lnT
  | [], [], _ => rfl
  | [], y :: Y, h => by simp at h
  | x :: X, [], h => by simp at h
  | x :: X, y :: Y, h => by
    simp only [List.map_cons, List.cons.injEq] at h ⊢
    exact ⟨lnT_say h.1, maps_back h.2⟩
/-- A state's text tells the state. -/
theorem txt_one {X Y : List Rw} (hx : ∀ x ∈ X, LGood x) (hy : ∀ y ∈ Y, LGood y) (kx : OkT X) (ky : OkT Y) : seald (txt X) = seald (txt Y) ↔ X.map Rw.say = Y.map Rw.say := by
  constructor
  · intro h
    have h1 := seald_one h
    unfold txt at h1
    rw [lns_map, lns_map, hd_cut, hd_cut] at h1
    have hno : ∀ n : Nat, (10 : UInt8) ∉ [116, 101, 112, 104, 114, 97, 32] ++ Lib.decDigits n := fun n h => by
      rcases List.mem_append.1 h with h | h
      · revert h; decide
      · exact dec_mem n 10 h rfl
    obtain ⟨_, h3⟩ := cut_first (hno _) (hno _) h1
    have h4 := lines_one (fun a ha => by obtain ⟨x, _, rfl⟩ := List.mem_map.1 ha; exact line_no10 x) (fun a ha => by obtain ⟨x, _, rfl⟩ := List.mem_map.1 ha; exact line_no10 x) h3
    exact maps_one hx hy kx.2 ky.2 h4
  · intro h
    have h1 := maps_back h
    have hl : X.length = Y.length := by have := congrArg List.length h; simpa using this
    unfold txt
    rw [lns_map, lns_map, h1, hl]

end Go.Proofs.YtgioknppnfencaaDoor

/- DumpOne. -/
namespace Go.Proofs.YtgioknppnfencaaDoor
open Go.RowKit

set_option maxRecDepth 100000 in
set_option maxHeartbeats 4000000 in
theorem done_any (A : Option Addr) (n c : Nat) (xs : List Rw) (hn : n ≤ maxLen) (hf : ∀ x ∈ xs, (Fits x.r x.l ∧ x.n ≤ maxLen) ∧ Nums x.r x.l) (B : Option Addr) (m d : Nat) (ys : List Rw) (hm : m ≤ maxLen) (hfy : ∀ x ∈ ys, (Fits x.r x.l ∧ x.n ≤ maxLen) ∧ Nums x.r x.l) (w : World) (hl : Laid w) (hp : PowTab w) (h : Recs w w.heap.size A n xs) (hy : Recs w w.heap.size B m ys) :
    Calls Tryd.prog 4 #[.slice A n c, .slice B m d] w fun e w' => e = .returned (.bool true) ∧ Below w.heap.size w w' := by
  have HGX := Lib.hid (greats_any A n c xs hn (fun x hx => (hf x hx).1) w h)
  have HGY := Lib.hid (fun (W : World) (hb : Below w.heap.size w W) => greats_any B m d ys hm (fun x hx => (hfy x hx).1) W ((hy.below hb).more hb.size))
  have HLA := Lib.hid hl
  have HPO := Lib.hid hp
  have HFX := Lib.hid (fun (W : World) (hb : Below w.heap.size w W) => dfixed_any W (HLA.out.below hb))
  by_cases gx : smalls xs
  · have GX := Lib.hid gx
    by_cases gy : smalls ys
    · have GY := Lib.hid gy
      have gdx : ∀ x ∈ xs, LGood x := fun x hx => ⟨(hf x hx).1.1, (hf x hx).2, gx.1 x hx⟩
      have gdy : ∀ x ∈ ys, LGood x := fun x hx => ⟨(hfy x hx).1.1, (hfy x hx).2, gy.1 x hx⟩
      have hn30 : n ≤ 30 := by rw [← h.len]; exact gx.2
      have hm30 : m ≤ 30 := by rw [← hy.len]; exact gy.2
      have HOFX := Lib.hid (fun (W : World) (hb : Below w.heap.size w W) => rof_any A n c xs (by omega) (fun x hx => (hf x hx).1.1.1) W ((h.below hb).more hb.size))
      have HOFY := Lib.hid (fun (W : World) (hb : Below w.heap.size w W) => rof_any B m d ys (by omega) (fun x hx => (hfy x hx).1.1.1) W ((hy.below hb).more hb.size))
      have hX : ∀ x ∈ fo Rw.k Rw.t xs, LGood x := fun x hx => gdx x (fo_mem hx).1
      have hY : ∀ x ∈ fo Rw.k Rw.t ys, LGood x := fun x hx => gdy x (fo_mem hx).1
      have lX : (fo Rw.k Rw.t xs).length ≤ 30 := Nat.le_trans (fo_len xs) gx.2
      have lY : (fo Rw.k Rw.t ys).length ≤ 30 := Nat.le_trans (fo_len ys) gy.2
      have nX : ∀ x ∈ fo Rw.k Rw.t xs, x.n ≤ 1000000 := fun x hx => by
        have hx2 := (fo_mem hx).1
        have h1 := (gx.1 x hx2).2.1
        have h2 := (h.2 x hx2).1.1
        rw [dps_len] at h2
        omega
      obtain ⟨X, eX⟩ : ∃ X, X = fo Rw.k Rw.t xs := ⟨_, rfl⟩
      obtain ⟨Y, eY⟩ : ∃ Y, Y = fo Rw.k Rw.t ys := ⟨_, rfl⟩
      rw [← eX] at HOFX hX lX nX
      rw [← eY] at HOFY hY lY
      obtain ⟨t1, e1, hd1, _, hc1⟩ := texts_any X lX hX
      obtain ⟨t2, e2, hd2, _, hc2⟩ := texts_any Y lY hY
      obtain ⟨m1, hm1⟩ : ∃ m1, m1 = X.length := ⟨_, rfl⟩
      obtain ⟨m2, hm2⟩ : ∃ m2, m2 = Y.length := ⟨_, rfl⟩
      rw [← hm1] at HOFX
      rw [← hm2] at HOFY
      have HM1 : Hid (m1 ≤ maxLen) := by show _ ≤ _; unfold maxLen; omega
      have HM2 : Hid (m2 ≤ maxLen) := by show _ ≤ _; unfold maxLen; omega
      have HXN := Lib.hid nX
      have HDX := Lib.hid hd1
      have HDY := Lib.hid hd2
      have HONE := Lib.hid (fun (kx : OkT X) (ky : OkT Y) => txt_one hX hY kx ky)
      clear gdx gdy hf hfy h hy hl hp gx gy hd1 hd2 hX hY lX lY nX eX eY hm1 hm2
      rcases hc1 with ⟨ok1, rfl, rfl⟩ | ⟨_, rfl⟩
      · rcases hc2 with ⟨ok2, rfl, rfl⟩ | ⟨_, rfl⟩
        · have hiff := HONE.out ok1 ok2
          by_cases hsame : X.map Rw.say = Y.map Rw.say
          · have HS := Lib.hid hsame
            have he : ((tx (seald (txt X))).toList == (tx (seald (txt Y))).toList) = true := by rw [hiff.2 hsame]; exact beq_self_eq_true _
            generalize tx (seald (txt X)) = s1 at *
            generalize tx (seald (txt Y)) = s2 at *
            clear hsame hiff ok1 ok2 HONE
            go_enter Tryd.func4, Tryd.ntmps4
            go_wp2_with fail
            refine HGX.out.mono ?_
            rintro e w1 ⟨he, hb1⟩
            obtain rfl := he.no (fun h => h GX.out)
            have HB1 := Lib.hid hb1
            clear hb1 he
            go_wp2_with fail
            refine (HGY.out _ HB1.out).mono ?_
            rintro e w2 ⟨he, hb2⟩
            obtain rfl := he.no (fun h => h GY.out)
            have HB2 := Lib.hid (HB1.out.trans (hb2.mono HB1.out.size))
            clear hb2 he
            go_wp2_with fail
            refine (HOFX.out _ HB2.out).mono ?_
            rintro e w3 ⟨A3, c3, rfl, hrc3, hb3⟩
            have HB3 := Lib.hid (HB2.out.trans (hb3.mono HB2.out.size))
            have HRC3 := Lib.hid hrc3
            clear hrc3
            clear hb3
            go_wp2_with fail
            refine (HOFY.out _ HB3.out).mono ?_
            rintro e w4 ⟨A4, c4, rfl, hrc4, hb4⟩
            have HB4 := Lib.hid (HB3.out.trans (hb4.mono HB3.out.size))
            have HRC4 := Lib.hid hrc4
            have HRC34 := Lib.hid ((HRC3.out.below hb4).more hb4.size)
            clear hrc4
            clear hb4
            go_wp2_with fail
            refine (HDX.out A3 m1 c3 w4 (HLA.out.below HB4.out) (HPO.out.below HB4.out) HRC34.out).mono ?_
            rintro e w5 ⟨rfl, hb5⟩
            have HB5 := Lib.hid (HB4.out.trans (hb5.mono HB4.out.size))
            have HRC35 := Lib.hid ((HRC34.out.below hb5).more hb5.size)
            have HRC45 := Lib.hid ((HRC4.out.below hb5).more hb5.size)
            clear hb5
            go_wp2_with fail
            refine (HDY.out A4 m2 c4 w5 (HLA.out.below HB5.out) (HPO.out.below HB5.out) HRC45.out).mono ?_
            rintro e w6 ⟨rfl, hb6⟩
            have HB6 := Lib.hid (HB5.out.trans (hb6.mono HB5.out.size))
            have HRC36 := Lib.hid ((HRC35.out.below hb6).more hb6.size)
            have HRC46 := Lib.hid ((HRC45.out.below hb6).more hb6.size)
            clear hb6
            go_wp2_with fail
            refine (HFX.out _ HB6.out).mono ?_
            rintro e w7 ⟨rfl, hb7⟩
            have HB7 := Lib.hid (HB6.out.trans (hb7.mono HB6.out.size))
            have HRC37 := Lib.hid ((HRC36.out.below hb7).more hb7.size)
            have HRC47 := Lib.hid ((HRC46.out.below hb7).more hb7.size)
            clear hb7
            have HALL := Lib.hid (rall_any A3 A4 m1 m2 c3 c4 X Y HM1.out HM2.out HXN.out w7 HRC37.out HRC47.out)
            go_wp2_with fail
            refine HALL.out.mono ?_
            rintro e w8 ⟨he, hb8⟩
            obtain rfl := he.yes HS.out
            have HB8 := Lib.hid (HB7.out.trans (hb8.mono HB7.out.size))
            clear hb8 he
            go_wp2
            go_ret
            exact ⟨rfl, HB8.out⟩
          · have HS := Lib.hid hsame
            have he : ((tx (seald (txt X))).toList == (tx (seald (txt Y))).toList) = false := by
              rw [beq_eq_false_iff_ne]
              intro e2
              exact hsame (hiff.1 (by simpa [tx] using e2))
            generalize tx (seald (txt X)) = s1 at *
            generalize tx (seald (txt Y)) = s2 at *
            clear hsame hiff ok1 ok2 HONE
            go_enter Tryd.func4, Tryd.ntmps4
            go_wp2_with fail
            refine HGX.out.mono ?_
            rintro e w1 ⟨he, hb1⟩
            obtain rfl := he.no (fun h => h GX.out)
            have HB1 := Lib.hid hb1
            clear hb1 he
            go_wp2_with fail
            refine (HGY.out _ HB1.out).mono ?_
            rintro e w2 ⟨he, hb2⟩
            obtain rfl := he.no (fun h => h GY.out)
            have HB2 := Lib.hid (HB1.out.trans (hb2.mono HB1.out.size))
            clear hb2 he
            go_wp2_with fail
            refine (HOFX.out _ HB2.out).mono ?_
            rintro e w3 ⟨A3, c3, rfl, hrc3, hb3⟩
            have HB3 := Lib.hid (HB2.out.trans (hb3.mono HB2.out.size))
            have HRC3 := Lib.hid hrc3
            clear hrc3
            clear hb3
            go_wp2_with fail
            refine (HOFY.out _ HB3.out).mono ?_
            rintro e w4 ⟨A4, c4, rfl, hrc4, hb4⟩
            have HB4 := Lib.hid (HB3.out.trans (hb4.mono HB3.out.size))
            have HRC4 := Lib.hid hrc4
            have HRC34 := Lib.hid ((HRC3.out.below hb4).more hb4.size)
            clear hrc4
            clear hb4
            go_wp2_with fail
            refine (HDX.out A3 m1 c3 w4 (HLA.out.below HB4.out) (HPO.out.below HB4.out) HRC34.out).mono ?_
            rintro e w5 ⟨rfl, hb5⟩
            have HB5 := Lib.hid (HB4.out.trans (hb5.mono HB4.out.size))
            have HRC35 := Lib.hid ((HRC34.out.below hb5).more hb5.size)
            have HRC45 := Lib.hid ((HRC4.out.below hb5).more hb5.size)
            clear hb5
            go_wp2_with fail
            refine (HDY.out A4 m2 c4 w5 (HLA.out.below HB5.out) (HPO.out.below HB5.out) HRC45.out).mono ?_
            rintro e w6 ⟨rfl, hb6⟩
            have HB6 := Lib.hid (HB5.out.trans (hb6.mono HB5.out.size))
            have HRC36 := Lib.hid ((HRC35.out.below hb6).more hb6.size)
            have HRC46 := Lib.hid ((HRC45.out.below hb6).more hb6.size)
            clear hb6
            go_wp2_with fail
            refine (HFX.out _ HB6.out).mono ?_
            rintro e w7 ⟨rfl, hb7⟩
            have HB7 := Lib.hid (HB6.out.trans (hb7.mono HB6.out.size))
            have HRC37 := Lib.hid ((HRC36.out.below hb7).more hb7.size)
            have HRC47 := Lib.hid ((HRC46.out.below hb7).more hb7.size)
            clear hb7
            have HALL := Lib.hid (rall_any A3 A4 m1 m2 c3 c4 X Y HM1.out HM2.out HXN.out w7 HRC37.out HRC47.out)
            go_wp2_with fail
            refine HALL.out.mono ?_
            rintro e w8 ⟨he, hb8⟩
            obtain rfl := he.no HS.out
            have HB8 := Lib.hid (HB7.out.trans (hb8.mono HB7.out.size))
            clear hb8 he
            go_wp2
            go_ret
            exact ⟨rfl, HB8.out⟩
        · clear HONE
          go_enter Tryd.func4, Tryd.ntmps4
          go_wp2_with fail
          refine HGX.out.mono ?_
          rintro e w1 ⟨he, hb1⟩
          obtain rfl := he.no (fun h => h GX.out)
          have HB1 := Lib.hid hb1
          clear hb1 he
          go_wp2_with fail
          refine (HGY.out _ HB1.out).mono ?_
          rintro e w2 ⟨he, hb2⟩
          obtain rfl := he.no (fun h => h GY.out)
          have HB2 := Lib.hid (HB1.out.trans (hb2.mono HB1.out.size))
          clear hb2 he
          go_wp2_with fail
          refine (HOFX.out _ HB2.out).mono ?_
          rintro e w3 ⟨A3, c3, rfl, hrc3, hb3⟩
          have HB3 := Lib.hid (HB2.out.trans (hb3.mono HB2.out.size))
          have HRC3 := Lib.hid hrc3
          clear hrc3
          clear hb3
          go_wp2_with fail
          refine (HOFY.out _ HB3.out).mono ?_
          rintro e w4 ⟨A4, c4, rfl, hrc4, hb4⟩
          have HB4 := Lib.hid (HB3.out.trans (hb4.mono HB3.out.size))
          have HRC4 := Lib.hid hrc4
          have HRC34 := Lib.hid ((HRC3.out.below hb4).more hb4.size)
          clear hrc4
          clear hb4
          go_wp2_with fail
          refine (HDX.out A3 m1 c3 w4 (HLA.out.below HB4.out) (HPO.out.below HB4.out) HRC34.out).mono ?_
          rintro e w5 ⟨rfl, hb5⟩
          have HB5 := Lib.hid (HB4.out.trans (hb5.mono HB4.out.size))
          have HRC35 := Lib.hid ((HRC34.out.below hb5).more hb5.size)
          have HRC45 := Lib.hid ((HRC4.out.below hb5).more hb5.size)
          clear hb5
          go_wp2_with fail
          refine (HDY.out A4 m2 c4 w5 (HLA.out.below HB5.out) (HPO.out.below HB5.out) HRC45.out).mono ?_
          rintro e w6 ⟨rfl, hb6⟩
          have HB6 := Lib.hid (HB5.out.trans (hb6.mono HB5.out.size))
          have HRC36 := Lib.hid ((HRC35.out.below hb6).more hb6.size)
          have HRC46 := Lib.hid ((HRC45.out.below hb6).more hb6.size)
          clear hb6
          go_wp2_with fail
          refine (HFX.out _ HB6.out).mono ?_
          rintro e w20 ⟨rfl, hb20⟩
          have HB20 := Lib.hid (HB6.out.trans (hb20.mono HB6.out.size))
          clear hb20
          go_wp2
          go_ret
          exact ⟨rfl, HB20.out⟩
      · clear HONE hc2
        go_enter Tryd.func4, Tryd.ntmps4
        go_wp2_with fail
        refine HGX.out.mono ?_
        rintro e w1 ⟨he, hb1⟩
        obtain rfl := he.no (fun h => h GX.out)
        have HB1 := Lib.hid hb1
        clear hb1 he
        go_wp2_with fail
        refine (HGY.out _ HB1.out).mono ?_
        rintro e w2 ⟨he, hb2⟩
        obtain rfl := he.no (fun h => h GY.out)
        have HB2 := Lib.hid (HB1.out.trans (hb2.mono HB1.out.size))
        clear hb2 he
        go_wp2_with fail
        refine (HOFX.out _ HB2.out).mono ?_
        rintro e w3 ⟨A3, c3, rfl, hrc3, hb3⟩
        have HB3 := Lib.hid (HB2.out.trans (hb3.mono HB2.out.size))
        have HRC3 := Lib.hid hrc3
        clear hrc3
        clear hb3
        go_wp2_with fail
        refine (HOFY.out _ HB3.out).mono ?_
        rintro e w4 ⟨A4, c4, rfl, hrc4, hb4⟩
        have HB4 := Lib.hid (HB3.out.trans (hb4.mono HB3.out.size))
        have HRC4 := Lib.hid hrc4
        have HRC34 := Lib.hid ((HRC3.out.below hb4).more hb4.size)
        clear hrc4
        clear hb4
        go_wp2_with fail
        refine (HDX.out A3 m1 c3 w4 (HLA.out.below HB4.out) (HPO.out.below HB4.out) HRC34.out).mono ?_
        rintro e w5 ⟨rfl, hb5⟩
        have HB5 := Lib.hid (HB4.out.trans (hb5.mono HB4.out.size))
        have HRC35 := Lib.hid ((HRC34.out.below hb5).more hb5.size)
        have HRC45 := Lib.hid ((HRC4.out.below hb5).more hb5.size)
        clear hb5
        go_wp2_with fail
        refine (HDY.out A4 m2 c4 w5 (HLA.out.below HB5.out) (HPO.out.below HB5.out) HRC45.out).mono ?_
        rintro e w6 ⟨rfl, hb6⟩
        have HB6 := Lib.hid (HB5.out.trans (hb6.mono HB5.out.size))
        have HRC36 := Lib.hid ((HRC35.out.below hb6).more hb6.size)
        have HRC46 := Lib.hid ((HRC45.out.below hb6).more hb6.size)
        clear hb6
        go_wp2_with fail
        refine (HFX.out _ HB6.out).mono ?_
        rintro e w20 ⟨rfl, hb20⟩
        have HB20 := Lib.hid (HB6.out.trans (hb20.mono HB6.out.size))
        clear hb20
        go_wp2
        go_ret
        exact ⟨rfl, HB20.out⟩
    · have GY := Lib.hid gy
      clear hf hfy h hy hl hp gx gy
      go_enter Tryd.func4, Tryd.ntmps4
      go_wp2_with fail
      refine HGX.out.mono ?_
      rintro e w1 ⟨he, hb1⟩
      obtain rfl := he.no (fun h => h GX.out)
      have HB1 := Lib.hid hb1
      clear hb1 he
      go_wp2_with fail
      refine (HGY.out _ HB1.out).mono ?_
      rintro e w2 ⟨he, hb2⟩
      obtain rfl := he.yes GY.out
      have HB2 := Lib.hid (HB1.out.trans (hb2.mono HB1.out.size))
      clear hb2 he
      go_wp2_with fail
      refine (HFX.out _ HB2.out).mono ?_
      rintro e w20 ⟨rfl, hb20⟩
      have HB20 := Lib.hid (HB2.out.trans (hb20.mono HB2.out.size))
      clear hb20
      go_wp2
      go_ret
      exact ⟨rfl, HB20.out⟩
  · have GX := Lib.hid gx
    clear hf hfy h hy hl hp gx
    go_enter Tryd.func4, Tryd.ntmps4
    go_wp2_with fail
    refine HGX.out.mono ?_
    rintro e w1 ⟨he, hb1⟩
    obtain rfl := he.yes GX.out
    have HB1 := Lib.hid hb1
    clear hb1 he
    go_wp2_with fail
    refine (HFX.out _ HB1.out).mono ?_
    rintro e w20 ⟨rfl, hb20⟩
    have HB20 := Lib.hid (HB1.out.trans (hb20.mono HB1.out.size))
    clear hb20
    go_wp2
    go_ret
    exact ⟨rfl, HB20.out⟩

end Go.Proofs.YtgioknppnfencaaDoor

/- The way down: records that came in, their numbers of 64 bits. -/
namespace Go.Proofs.YtgioknppnfencaaDoor
open Go.ChangeShapes Go.WideShapes Go.ChangeAt Go.RowKit Go.Deep

set_option maxRecDepth 100000 in
theorem open_recsN {H : Type} {enc : TypeId × Value → H} {W : World} {v : Value} {d : DataW H} {ps : List MemPlace} {r0 : Reach} {b0 : Nat} (hval : Value.okWide Tryd.prog W r0 b0 22 v) (hd : DataW.Trod enc Tryd.prog W 0 (fun _ => true) true 22 v d ps) :
    ∃ (A : Option Addr) (n c : Nat) (xs : List Rw), v = .slice A n c ∧ n ≤ maxLen ∧ (A = none → c = 0) ∧ (∀ x ∈ xs, (Fits x.r x.l ∧ x.n ≤ maxLen) ∧ Nums x.r x.l) ∧ Recs W W.heap.size A n xs := by
  obtain ⟨A0, n0, c0, rfl⟩ := okWide_slice Tryd.underlying22 hval
  obtain ⟨fuel, hf⟩ := hd
  rcases Go.Deep.open_slice Tryd.underlying22 hf with ⟨hcs, _⟩ | ⟨ad, n, c, m, k, D, Pl, hcs, _, hl, hmx, hm, _, hi⟩
  · have e : Value.slice A0 n0 c0 = .slice none 0 0 := by simpa [Value.cells] using hcs
    exact ⟨none, 0, 0, [], e, by omega, fun _ => rfl, by simp, Recs.nil _ _ _⟩
  · have hnm : n ≤ m := by rw [hm]; simp; exact hl
    have e : Value.slice A0 n0 c0 = .slice (some ad) n c := by simpa [Value.cells] using hcs
    have hall : ∀ i, i < n → ∃ x : Rw, ((((Fits x.r x.l ∧ x.n ≤ maxLen) ∧ Nums x.r x.l) ∧ (Reads W W.heap.size 3 x.A x.n (dps x.l) ∧ (x.A = none → x.c = 0)))) ∧ ∀ k u, x.cells[k]? = some u → W.cell? (ad.add (i * 7 + k)) = some u := by
      intro i hin
      obtain ⟨cs, hcell, htr⟩ := hi i (by omega)
      rw [c_rec] at hcell
      obtain ⟨_, _, hat⟩ := World.cells?_some hcell
      obtain ⟨r, A, n', c', l, rfl, h2, h3, h4, h5⟩ := open_rcells htr
      have h6 := rcells_nums htr h5
      refine ⟨⟨r, A, n', c', l⟩, ⟨⟨⟨h4, h2⟩, h6⟩, h5, h3⟩, fun k u hu => ?_⟩
      have hk : k < 7 := (List.getElem?_eq_some_iff.1 hu).1
      have h := hat k (by omega)
      rw [add_of_add] at h
      rw [h]
      exact hu
    obtain ⟨xs, h1, h2, h3⟩ := recs_row W ad _ n hall
    refine ⟨some ad, n, c, xs, e, by omega, fun h => (by cases h), fun x hx => (h2 x hx).1, ⟨by rw [rws_len, h1], fun hn => ⟨ad, rfl, ?_, fun j u hu => ?_⟩⟩, fun x hx => (h2 x hx).2⟩
    · obtain ⟨x, _, h4⟩ := hall 0 hn
      have := cell_lt (h4 0 _ rfl)
      rwa [block_of_add] at this
    · obtain ⟨x, g1, g2⟩ := rws_back xs j u hu
      have := h3 _ x g1 _ u g2
      rwa [show j / 7 * 7 + j % 7 = j by omega] at this

end Go.Proofs.YtgioknppnfencaaDoor

/- The way down: the table of crc among those that are listed. -/
namespace Go.Proofs.YtgioknppnfencaaDoor
open Go.ChangeShapes Go.WideShapes Go.ChangeAt Go.RowKit

theorem gHalves : Tryd.prog.globalNamed "tephra/crc.halves" = some 0 := by kernel_rfl
theorem tHalves : (Tryd.prog.globals[0]?).map (·.type) = some 80 := by kernel_rfl
theorem cells25 : Tryd.prog.cellsOf 64 = 1 := by kernel_rfl

theorem ints_of_vars {P : Program} {W : World} {n : String} {g len : Nat} {t e : TypeId} {k : IntKind} {zs : List Int} {l : List (String × DataW Unit)} {ps : List MemPlace} (hg : P.globalNamed n = some g) (ht0 : (P.globals[g]?).map (·.type) = some t)
    (ht : P.underlying t = some (.array len e)) (he : P.underlying e = some (.int k)) (hc : P.cellsOf e = 1) (h : DataW.LaidVars P W ((n, .agg (zs.map fun z => .lit (.int k z))) :: l) ps) :
    ∀ (i : Nat) (z : Int), zs[i]? = some z → W.cell? ⟨g, i, none⟩ = some (.int k z) := by
  obtain ⟨g', t', cs, fuel, p, q, hg', ht', hvar, hd, _, _⟩ := h
  obtain rfl := Option.some.inj (hg.symm.trans hg')
  obtain rfl := Option.some.inj (ht0.symm.trans ht')
  obtain ⟨xs, m, rfl, hx, hlen, hxl, hel⟩ := DataW.trod_array ht hd
  simp only [Prod.mk.injEq, DataW.agg.injEq] at hx
  intro i z hz
  have h1 : (xs.map (·.1))[i]? = some (.lit (.int k z)) := by rw [← hx.1, List.getElem?_map, hz]; rfl
  rw [List.getElem?_map] at h1
  obtain ⟨y, hy, hy1⟩ := Option.map_eq_some_iff.1 h1
  have hi : i < len := by rw [← hxl]; exact (List.getElem?_eq_some_iff.1 hy).1
  have h2 := hel i hi
  rw [hy, hc, Nat.mul_one] at h2
  obtain ⟨n', e1, e2, _⟩ := DataW.trod_int he h2
  rw [e2] at hy1
  have hnz : n' = z := by simpa using hy1
  subst hnz
  have h3 : cs.toList[i]? = some (.int k n') := by
    have := congrArg (fun l : List Value => l[0]?) e1
    simpa [List.getElem?_take, List.getElem?_drop] using this
  rw [World.var?_cell hg hvar i]
  simpa using h3

theorem laid_tail {P : Program} {W : World} {x : String × DataW Unit} {l : List (String × DataW Unit)} {ps : List MemPlace} (h : DataW.LaidVars P W (x :: l) ps) : ∃ qs, DataW.LaidVars P W l qs := by
  obtain ⟨x1, x2⟩ := x
  obtain ⟨g', t', cs, fuel, p, q, hg', ht', hvar, hd, hq, _⟩ := h
  exact ⟨_, hq⟩

theorem of_laid4 {W : World} (h : laidMetH Tryd.prog [("math/bits.deBruijn32tab", Rows.laid_math_bits_deBruijn32tab), ("math/bits.deBruijn64tab", Rows.laid_math_bits_deBruijn64tab), ("internal/strconv.uint64pow10", Rows.laid_internal_strconv_uint64pow10), ("tephra/crc.halves", Rows.laid_tephra_crc_halves)] W) : Laid W := by
  rw [MakeChecks.laidMetH_plain _ _ _ (by kernel_rfl)] at h
  obtain ⟨ps, h0, _⟩ := h
  obtain ⟨_, h1⟩ := laid_tail h0
  obtain ⟨_, h2⟩ := laid_tail h1
  obtain ⟨_, h3⟩ := laid_tail h2
  have h4 := ints_of_vars (zs := tab.map (fun n : Nat => (n : Int))) gHalves tHalves Tryd.underlying80 Tryd.underlying64 cells25 h3
  intro i hi
  refine h4 i (tabN i) ?_
  have : ∀ j : Fin 16, (tab.map (fun n : Nat => (n : Int)))[j.val]? = some ((tabN j.val : Nat) : Int) := by decide
  exact this ⟨i, hi⟩

end Go.Proofs.YtgioknppnfencaaDoor

/- The way down: the table of powers of ten among those that are listed. -/
namespace Go.Proofs.YtgioknppnfencaaDoor
open Go.ChangeShapes Go.WideShapes Go.ChangeAt Go.RowKit

theorem gPow : Tryd.prog.globalNamed "internal/strconv.uint64pow10" = some 1 := by kernel_rfl
theorem tPow : (Tryd.prog.globals[1]?).map (·.type) = some 96 := by kernel_rfl
theorem cPow1 : Tryd.prog.cellsOf 32 = 1 := by kernel_rfl
theorem cPow : Tryd.prog.cellsOf 96 = 20 := by kernel_rfl
theorem dPow : (Rows.laid_internal_strconv_uint64pow10 : DataW Unit) = Lib.tabData .u64 Lib.pow10Tab := by kernel_rfl

theorem pow_laid4 {W : World} (h : laidMetH Tryd.prog [("math/bits.deBruijn32tab", Rows.laid_math_bits_deBruijn32tab), ("math/bits.deBruijn64tab", Rows.laid_math_bits_deBruijn64tab), ("internal/strconv.uint64pow10", Rows.laid_internal_strconv_uint64pow10), ("tephra/crc.halves", Rows.laid_tephra_crc_halves)] W) : PowTab W := by
  rw [MakeChecks.laidMetH_plain _ _ _ (by kernel_rfl)] at h
  obtain ⟨ps, h0, _⟩ := h
  obtain ⟨_, h1⟩ := laid_tail h0
  obtain ⟨_, h2⟩ := laid_tail h1
  rw [dPow] at h2
  obtain ⟨g', t', cs, fuel, p, q, hg', ht', hvar, hd, _, _⟩ := h2
  obtain rfl := Option.some.inj (gPow.symm.trans hg')
  obtain rfl := Option.some.inj (tPow.symm.trans ht')
  unfold PowTab Lib.TabIs
  rw [hvar, ← Lib.cells_of_tab Tryd.underlying96 Tryd.underlying32 cPow1 cPow hd]

end Go.Proofs.YtgioknppnfencaaDoor

/- The way up for a law: it answered true, and of what was there nothing has turned: then its row's close holds, whatever its arguments are. -/
namespace Go.Proofs.YtgioknppnfencaaDoor
open Go.ChangeShapes Go.WideShapes Go.ChangeAt Go.RowKit

theorem trodAll_below {H : Type} {enc : TypeId × Value → H} {P : Program} (hl : laidOutB P = true) {W W' : World} (hb : Below W.heap.size W W') :
    ∀ {ts : List TypeId} {vs : List Value} {ds : List (DataW H)} {ps : List MemPlace}, (∀ t ∈ ts, P.readableRec t = true ∧ t < P.types.size) →
      DataW.TrodAll enc P W 0 (fun _ => true) true ts vs ds ps → (∀ x ∈ ps, x.block < W.heap.size) → DataW.TrodAll enc P W' 0 (fun b => decide (b < W.heap.size)) true ts vs ds ps
  | [], vs, ds, ps, _, h, _ => by
    obtain ⟨rfl, rfl, rfl⟩ := trodAll_nil h
    exact trodAll_mk0
  | t :: ts, vs, ds, ps, hr, h, hlt => by
    obtain ⟨v, vs1, d, ds1, a, b, rfl, rfl, rfl, h1, h2⟩ := trodAll_cons h
    have ht := hr t (by simp)
    exact trodAll_cons_mk (Below.trod hl ht.1 ht.2 h1 hb (fun x hx => hlt x (by simp [hx])))
      (trodAll_below hl hb (fun t' h' => hr t' (by simp [h'])) h2 (fun x hx => hlt x (by simp [hx])))

theorem law_post {H : Type} {enc : TypeId × Value → H} {P : Program} {f : Func} {s : ChangeSpec} {tb : TypeId} (hl : laidOutB P = true) (htb : P.underlying tb = some .bool)
    (hres : f.resultTypes = #[tb]) (hpar : ∀ t ∈ f.params.toList, P.readableRec t = true ∧ t < P.types.size) (hvars : s.vars = [])
    {W W' : World} {args : Array Value} {ds gs : List (DataW H)} {before : List MemPlace}
    (hW : DataW.Whole enc P f.params.toList s.vars false W args.toList ds gs before) (hb : Below W.heap.size W W')
    (hfn : s.fn H (ds ++ gs) = { results := [.lit (.bool true)], args := ds, vars := [] }) :
    s.post enc P f false true false false W args (.bool true) W' := by
  have hW' := hW
  obtain ⟨p, q, hA, hV, rfl, _, _⟩ := hW
  rw [hvars] at hV
  obtain ⟨rfl, rfl⟩ := trodVars_none hV
  refine ⟨ds, [], p ++ [], [], p, [], hW', ?_, ?_, ?_, hb.frame _, fun h => by cases h⟩
  · rw [hfn, hres]
    exact trodAll_mk1 (shut_bool htb true)
  · rw [hfn]
    exact trodAll_below hl hb hpar hA (fun x hx => by simpa using hW'.lt x (by simpa using hx))
  · rw [hfn, hvars]
    exact rfl

end Go.Proofs.YtgioknppnfencaaDoor

/- Proved: DumpOne answers true at any arguments, in any memory in which crc's table and that of the powers of ten read as the program lays them (the card ties that to the program's text); nothing that was there is changed. No other condition. -/
namespace Go.Proofs.YtgioknppnfencaaDoor.done_
open Go.ChangeShapes Go.WideShapes Go.ChangeAt Go.RowKit

theorem own : ownKnob Tryd.prog.godebug = none := by kernel_rfl
theorem laidOut : laidOutB Tryd.prog = true := by kernel_rfl

set_option maxRecDepth 100000 in
theorem lifted (os : Os) (started : os.Started) (H : Type) (enc : TypeId × Value → H) :
    ReturnsInHanded {} Tryd.checked os 4 .any (fun w args => (Rows.dumpOneSpec.pre enc Tryd.prog Tryd.f4 [] false w args ∧ laidMetH Tryd.prog [("math/bits.deBruijn32tab", Rows.laid_math_bits_deBruijn32tab), ("math/bits.deBruijn64tab", Rows.laid_math_bits_deBruijn64tab), ("internal/strconv.uint64pow10", Rows.laid_internal_strconv_uint64pow10), ("tephra/crc.halves", Rows.laid_tephra_crc_halves)] w) ∧ sizedMet enc Tryd.prog Tryd.f4 (OpenSpec.ofChange Rows.dumpOneSpec) false w args)
      (Rows.dumpOneSpec.post enc Tryd.prog Tryd.f4 false true false false) := by
  refine returnsInHanded_of_change_and (C := Tryd.checked) (X := fun w _ => laidMetH Tryd.prog [("math/bits.deBruijn32tab", Rows.laid_math_bits_deBruijn32tab), ("math/bits.deBruijn64tab", Rows.laid_math_bits_deBruijn64tab), ("internal/strconv.uint64pow10", Rows.laid_internal_strconv_uint64pow10), ("tephra/crc.halves", Rows.laid_tephra_crc_halves)] w) (fun _ _ _ hh h => h.of_heap hh) own started (by kernel_rfl) Tryd.func4
    (ChangeSpec.witness_shaped (enc := enc) (C := Tryd.checked) (os := os) (X := fun w _ => laidMetH Tryd.prog [("math/bits.deBruijn32tab", Rows.laid_math_bits_deBruijn32tab), ("math/bits.deBruijn64tab", Rows.laid_math_bits_deBruijn64tab), ("internal/strconv.uint64pow10", Rows.laid_internal_strconv_uint64pow10), ("tephra/crc.halves", Rows.laid_tephra_crc_halves)] w) false (World.laidAll Tryd.prog os [("math/bits.deBruijn32tab", Rows.laid_math_bits_deBruijn32tab), ("math/bits.deBruijn64tab", Rows.laid_math_bits_deBruijn64tab), ("internal/strconv.uint64pow10", Rows.laid_internal_strconv_uint64pow10), ("tephra/crc.halves", Rows.laid_tephra_crc_halves)]) #[.slice none 0 0, .slice none 0 0] 8 (World.laidAll_os _ _ _)
      (World.shaped_of_ZipB (by kernel_rfl) (by kernel_rfl)) (by kernel_rfl) (by kernel_rfl) (by kernel_rfl)
      (by rw [MakeChecks.laidMetH_plain _ _ _ (by kernel_rfl)]; exact laidMet_laidAll _ (by kernel_rfl) (by kernel_rfl))) ?_
  intro W base args ds gs before hval0 hW _ _ hL _
  have hval : ∀ (j : Nat) t v, Tryd.f4.params[j]? = some t → args[j]? = some v → Value.okWide Tryd.prog W .any base t v := hval0
  have hW' := hW
  obtain ⟨p, q, hA0, hV, rfl, hfz, hnd⟩ := hW
  have hA : DataW.TrodAll enc Tryd.prog W 0 (fun _ => true) true Tryd.f4.params.toList args.toList ds p := hA0
  rw [Tryd.params4] at hA hval
  obtain ⟨v0, v1, d0, d1, p0, p1, rfl, rfl, rfl, h0, h1⟩ := trodAll_two hA
  obtain ⟨rfl, rfl⟩ := trodVars_none hV
  obtain ⟨A, n, c, xs, rfl, hn, hAn, hf, hr⟩ := open_recsN (hval 0 22 v0 rfl rfl) h0
  obtain ⟨B, m, d, ys, rfl, hm, hBm, hfy, hry⟩ := open_recsN (hval 1 22 v1 rfl rfl) h1
  refine (done_any A n c xs hn hf B m d ys hm hfy W (of_laid4 hL) (pow_laid4 hL) hr hry).mono fun e W' ⟨he, hb⟩ => ?_
  subst he
  exact ⟨_, rfl, law_post laidOut Tryd.underlying4 rfl (fun t ht => ⟨by revert t; decide +kernel, by revert t; decide +kernel⟩) rfl hW' hb rfl⟩

theorem said : Rows.DumpOneSaid :=
  OpenClaim.holds_of_wide 4 Tryd.f4 rfl rfl rfl rfl rfl rfl rfl ⟨rfl, rfl, rfl, rfl, rfl⟩ rfl rfl rfl rfl rfl (by kernel_rfl) Tryd.func4 (by kernel_rfl)
    (of_decide_eq_true (by kernel_rfl)) (by unfold Func.isWrapper; first | (rw [if_pos (by decide +kernel)]; kernel_rfl) | (rw [if_neg (by decide +kernel)]; exact ⟨rfl, rfl⟩))
    (fun os started H enc _ => lifted os started H enc)

theorem proved : Rows.DumpOneCardSaid :=
  Claim7.holds_tied_plain_at .later [] [.data, .data, .data, .data] true (true, "1f4cff022ae809fc84f0ff4f5da5186896200f6c18a764890590f3adad8465f5") false
    said (fun _ h => by cases h) (by kernel_rfl) (fun _ h => by cases h) dumpOne_row_tie rfl ⟨rfl, rfl⟩ (by kernel_rfl) rfl
    (fun f fn hf hfn => by
      obtain rfl : f = 4 := Option.some.inj ((show Tryd.prog.funcNamed "tephra/tephralaw19.DumpOne" = some 4 by kernel_rfl).symm.trans hf) |>.symm
      obtain rfl : fn = Tryd.f4 := (Option.some.inj (Tryd.func4.symm.trans hfn)).symm
      exact ⟨by kernel_rfl, fun j t ht => by
        rw [Tryd.params4] at ht
        have hm : t ∈ [22, 22] := by simpa using Array.mem_of_getElem? ht
        have hall : ([22, 22].all fun u => !Tryd.prog.wantsStandIn u) = true := by kernel_rfl
        exact (show Tryd.prog.wantsStandIn t = false by simpa using List.all_eq_true.1 hall t hm)⟩)
    (by kernel_rfl)

end Go.Proofs.YtgioknppnfencaaDoor.done_
