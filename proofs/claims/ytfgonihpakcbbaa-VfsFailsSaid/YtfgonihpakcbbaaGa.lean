/- The mathematics of folds: things by their texts, rising; no program. -/
import Derived.Sort.KeysCollected
import Derived.Lib.Hide
namespace Go.Proofs.Ytfgonihpakcbbaa

theorem lx_tot (a b : List UInt8) : a ≤ b ∨ b ≤ a := List.le_total a b
theorem lx_asymm {a b : List UInt8} (h : a < b) : ¬ b < a := fun h2 => by
  have h3 : a ≤ b := List.le_of_lt h
  exact h3 h2
theorem lx_irr (a : List UInt8) : ¬ a < a := fun h => lx_asymm h h
theorem lx_ne {a b : List UInt8} (h : a < b) : a ≠ b := fun e => lx_irr a (by rw [← e] at h; exact h)
theorem lx_tri (a b : List UInt8) : a < b ∨ a = b ∨ b < a := by
  by_cases h1 : a < b
  · exact .inl h1
  · by_cases h2 : b < a
    · exact .inr (.inr h2)
    · exact .inr (.inl (List.le_antisymm (fun h => h2 h) (fun h => h1 h)))
theorem lx_trans {a b c : List UInt8} (h : a < b) (k : b < c) : a < c := List.lt_trans h k

section
variable {α β : Type} (k : α → Int) (t : α → List UInt8)

/-- One is put among others; 'laid': it is there already, or isn't to be. -/
def rput (x : α) : Bool → List α → List α
  | laid, [] => if laid then [] else [x]
  | laid, s :: S => (if laid = false ∧ t x < t s then [x] else []) ++ ((if t s ≠ t x then [s] else []) ++ rput x (laid || decide (t x < t s)) S)
def put1 (S : List α) (x : α) : List α := if k x = 1 then rput t x false S else if k x = 2 then rput t x true S else S
def fo (xs : List α) : List α := xs.foldl (put1 k t) []
def Up (S : List α) : Prop := S.Pairwise fun a b => t a < t b
def look (S : List α) (u : List UInt8) : Option α := S.find? fun s => t s == u

variable {k t}

theorem rput_mem {x y : α} : ∀ {S : List α} {laid : Bool}, y ∈ rput t x laid S ↔ (laid = false ∧ y = x) ∨ (y ∈ S ∧ t y ≠ t x)
  | [], laid => by cases laid <;> simp [rput]
  | s :: S, laid => by
    unfold rput
    rw [List.mem_append, List.mem_append, rput_mem (S := S)]
    by_cases h2 : t s = t x
    · have h1 : ¬ t x < t s := by rw [h2]; exact lx_irr _
      rw [if_neg (fun h => h1 h.2), if_neg (fun h => h h2), decide_eq_false h1, Bool.or_false]
      constructor
      · rintro (h | h | h | h)
        · cases h
        · cases h
        · exact .inl h
        · exact .inr ⟨List.mem_cons_of_mem _ h.1, h.2⟩
      · rintro (h | ⟨h, h3⟩)
        · exact .inr (.inr (.inl h))
        · rcases List.mem_cons.1 h with rfl | h
          · exact absurd h2 h3
          · exact .inr (.inr (.inr ⟨h, h3⟩))
    · rw [if_pos h2]
      have hs : y ∈ [s] ↔ y = s := List.mem_singleton
      constructor
      · rintro (h | h | h | h)
        · by_cases hc : laid = false ∧ t x < t s
          · rw [if_pos hc] at h
            exact .inl ⟨hc.1, List.mem_singleton.1 h⟩
          · rw [if_neg hc] at h
            cases h
        · rw [hs] at h
          subst h
          exact .inr ⟨List.mem_cons_self, h2⟩
        · exact .inl ⟨by have := h.1; rw [Bool.or_eq_false_iff] at this; exact this.1, h.2⟩
        · exact .inr ⟨List.mem_cons_of_mem _ h.1, h.2⟩
      · rintro (h | ⟨h, h3⟩)
        · by_cases h1 : t x < t s
          · rw [if_pos ⟨h.1, h1⟩]
            exact .inl (List.mem_singleton.2 h.2)
          · exact .inr (.inr (.inl ⟨by rw [h.1, decide_eq_false h1]; rfl, h.2⟩))
        · rcases List.mem_cons.1 h with rfl | h
          · exact .inr (.inl (hs.2 rfl))
          · exact .inr (.inr (.inr ⟨h, h3⟩))

theorem rput_up {x : α} : ∀ {S : List α} {laid : Bool}, Up t S → (laid = true → True) → Up t (rput t x laid S)
  | [], laid, _, _ => by cases laid <;> simp [rput, Up]
  | s :: S, laid, h, _ => by
    have h0 := List.pairwise_cons.1 h
    unfold rput
    by_cases h1 : t x < t s
    · have h2 : t s ≠ t x := fun e => lx_ne h1 e.symm
      have hs : Up t (s :: rput t x true S) := List.pairwise_cons.2 ⟨fun y hy => by
        rcases rput_mem.1 hy with ⟨h, _⟩ | ⟨h, _⟩
        · cases h
        · exact h0.1 y h, rput_up h0.2 (fun _ => trivial)⟩
      cases laid
      · simp [h1, h2]
        refine List.pairwise_cons.2 ⟨fun y hy => ?_, hs⟩
        rcases List.mem_cons.1 hy with rfl | hy
        · exact h1
        · exact lx_trans h1 ((List.pairwise_cons.1 hs).1 y hy)
      · simpa [h2] using hs
    · by_cases h2 : t s = t x
      · rw [if_neg (fun h => h1 h.2), if_neg (fun h => h h2)]
        exact rput_up h0.2 (fun _ => trivial)
      · have h3 : t s < t x := by
          rcases lx_tri (t s) (t x) with h | h | h
          · exact h
          · exact absurd h h2
          · exact absurd h h1
        rw [if_neg (fun h => h1 h.2), if_pos h2]
        refine List.pairwise_cons.2 ⟨fun y hy => ?_, rput_up h0.2 (fun _ => trivial)⟩
        rcases rput_mem.1 hy with ⟨_, rfl⟩ | ⟨h, _⟩
        · exact h3
        · exact h0.1 y h

theorem put1_up {S : List α} (h : Up t S) (x : α) : Up t (put1 k t S x) := by
  unfold put1
  split
  · exact rput_up h (fun _ => trivial)
  · split
    · exact rput_up h (fun _ => trivial)
    · exact h
theorem foldl_up : ∀ (xs S : List α), Up t S → Up t (xs.foldl (put1 k t) S)
  | [], _, h => h
  | x :: xs, _, h => foldl_up xs _ (put1_up h x)
theorem fo_up (xs : List α) : Up t (fo k t xs) := foldl_up xs [] List.Pairwise.nil

theorem put1_mem {S : List α} {x y : α} (h : y ∈ put1 k t S x) : y = x ∧ k x = 1 ∨ y ∈ S := by
  unfold put1 at h
  split at h
  · rcases rput_mem.1 h with ⟨_, h⟩ | ⟨h, _⟩
    · exact .inl ⟨h, by assumption⟩
    · exact .inr h
  · split at h
    · rcases rput_mem.1 h with ⟨h, _⟩ | ⟨h, _⟩
      · cases h
      · exact .inr h
    · exact .inr h
theorem foldl_mem : ∀ (xs S : List α) {y : α}, y ∈ xs.foldl (put1 k t) S → (y ∈ xs ∧ k y = 1) ∨ y ∈ S
  | [], _, _, h => .inr h
  | x :: xs, S, y, h => by
    rcases foldl_mem xs _ h with h | h
    · exact .inl ⟨List.mem_cons_of_mem _ h.1, h.2⟩
    · rcases put1_mem h with ⟨rfl, h2⟩ | h
      · exact .inl ⟨List.mem_cons_self, h2⟩
      · exact .inr h
theorem fo_mem {xs : List α} {y : α} (h : y ∈ fo k t xs) : y ∈ xs ∧ k y = 1 := by
  rcases foldl_mem xs [] h with h | h
  · exact h
  · cases h

theorem rput_len {x : α} : ∀ {S : List α} {laid : Bool}, (rput t x laid S).length ≤ S.length + (if laid then 0 else 1)
  | [], laid => by cases laid <;> simp [rput]
  | s :: S, laid => by
    unfold rput
    have ih := rput_len (x := x) (S := S) (laid := laid || decide (t x < t s))
    rw [List.length_append, List.length_append, List.length_cons]
    have h1 : (if t s ≠ t x then [s] else []).length ≤ 1 := by split <;> simp
    generalize (if t s ≠ t x then [s] else []).length = p at *
    generalize (rput t x (laid || decide (t x < t s)) S).length = q at *
    cases laid with
    | true =>
      simp only [Bool.true_or, if_true] at ih
      rw [if_neg (fun h => by cases h.1)]
      simp only [List.length_nil, if_true]
      omega
    | false =>
      by_cases hc : t x < t s
      · simp only [decide_eq_true hc, Bool.or_true, if_true] at ih
        rw [if_pos ⟨rfl, hc⟩]
        simp only [List.length_singleton, Bool.false_eq_true, if_false]
        omega
      · simp only [decide_eq_false hc, Bool.or_false, Bool.false_eq_true, if_false] at ih
        rw [if_neg (fun h => hc h.2)]
        simp only [List.length_nil, Bool.false_eq_true, if_false]
        omega
theorem put1_len (S : List α) (x : α) : (put1 k t S x).length ≤ S.length + 1 := by
  unfold put1
  split
  · have := rput_len (t := t) (x := x) (S := S) (laid := false)
    simpa using this
  · split
    · have := rput_len (t := t) (x := x) (S := S) (laid := true)
      simp at this
      omega
    · omega
theorem foldl_len : ∀ (xs S : List α), (xs.foldl (put1 k t) S).length ≤ S.length + xs.length
  | [], S => by simp
  | x :: xs, S => by
    have h1 := foldl_len xs (put1 k t S x)
    have h2 := put1_len (k := k) (t := t) S x
    rw [List.foldl_cons, List.length_cons]
    omega
theorem fo_len (xs : List α) : (fo k t xs).length ≤ xs.length := by
  have := foldl_len (k := k) (t := t) xs []
  simpa [fo] using this

theorem up_one {S : List α} (h : Up t S) {a b : α} (ha : a ∈ S) (hb : b ∈ S) (e : t a = t b) : a = b := by
  induction S with
  | nil => cases ha
  | cons s S ih =>
    have h0 := List.pairwise_cons.1 h
    rcases List.mem_cons.1 ha with ha2 | ha2
    · rcases List.mem_cons.1 hb with hb2 | hb2
      · rw [ha2, hb2]
      · exact absurd e (by rw [ha2]; exact lx_ne (h0.1 b hb2))
    · rcases List.mem_cons.1 hb with hb2 | hb2
      · exact absurd e.symm (by rw [hb2]; exact lx_ne (h0.1 a ha2))
      · exact ih h0.2 ha2 hb2
theorem look_some {S : List α} {u : List UInt8} {y : α} (h : look t S u = some y) : y ∈ S ∧ t y = u :=
  ⟨List.mem_of_find?_eq_some h, by have := List.find?_some h; simpa using this⟩
theorem look_of {S : List α} (h : Up t S) {y : α} (hy : y ∈ S) : look t S (t y) = some y := by
  cases e : look t S (t y) with
  | none =>
    have := List.find?_eq_none.1 e y hy
    simp at this
  | some z =>
    obtain ⟨h1, h2⟩ := look_some e
    rw [up_one h h1 hy h2]
theorem look_none {S : List α} {u : List UInt8} : look t S u = none ↔ ∀ y ∈ S, t y ≠ u := by
  unfold look
  rw [List.find?_eq_none]
  simp
theorem look_iff {S : List α} (h : Up t S) {u : List UInt8} {y : α} : look t S u = some y ↔ y ∈ S ∧ t y = u :=
  ⟨look_some, fun ⟨h1, h2⟩ => h2 ▸ look_of h h1⟩

theorem look_put {S : List α} (h : Up t S) (x : α) (u : List UInt8) : look t (rput t x false S) u = if u = t x then some x else look t S u := by
  have hu := rput_up (x := x) (laid := false) h (fun _ => trivial)
  by_cases e : u = t x
  · subst e
    rw [if_pos rfl]
    exact (look_iff hu).2 ⟨rput_mem.2 (.inl ⟨rfl, rfl⟩), rfl⟩
  · rw [if_neg e]
    cases e2 : look t S u with
    | none =>
      refine look_none.2 fun y hy e3 => ?_
      rcases rput_mem.1 hy with ⟨_, rfl⟩ | ⟨h1, _⟩
      · exact e e3.symm
      · exact look_none.1 e2 y h1 e3
    | some y =>
      obtain ⟨h1, h2⟩ := look_some e2
      exact (look_iff hu).2 ⟨rput_mem.2 (.inr ⟨h1, by rw [h2]; exact e⟩), h2⟩
theorem look_del {S : List α} (h : Up t S) (x : α) (u : List UInt8) : look t (rput t x true S) u = if u = t x then none else look t S u := by
  have hu := rput_up (x := x) (laid := true) h (fun _ => trivial)
  by_cases e : u = t x
  · subst e
    rw [if_pos rfl]
    refine look_none.2 fun y hy e3 => ?_
    rcases rput_mem.1 hy with ⟨h1, _⟩ | ⟨_, h1⟩
    · cases h1
    · exact h1 e3
  · rw [if_neg e]
    cases e2 : look t S u with
    | none =>
      refine look_none.2 fun y hy e3 => ?_
      rcases rput_mem.1 hy with ⟨h1, _⟩ | ⟨h1, _⟩
      · cases h1
      · exact look_none.1 e2 y h1 e3
    | some y =>
      obtain ⟨h1, h2⟩ := look_some e2
      exact (look_iff hu).2 ⟨rput_mem.2 (.inr ⟨h1, by rw [h2]; exact e⟩), h2⟩

/-- Behind records of other texts a text is as it was. -/
theorem look_past : ∀ (xs S : List α) (u : List UInt8), Up t S → (∀ x ∈ xs, t x = u → k x ≠ 1 ∧ k x ≠ 2) → look t (xs.foldl (put1 k t) S) u = look t S u
  | [], _, _, _, _ => rfl
  | x :: xs, S, u, h, hx => by
    rw [List.foldl_cons, look_past xs _ u (put1_up h x) (fun y hy => hx y (List.mem_cons_of_mem _ hy))]
    have h0 := hx x List.mem_cons_self
    unfold put1
    by_cases h1 : k x = 1
    · rw [if_pos h1, look_put h, if_neg (fun e => (h0 e.symm).1 h1)]
    · rw [if_neg h1]
      by_cases h2 : k x = 2
      · rw [if_pos h2, look_del h, if_neg (fun e => (h0 e.symm).2 h2)]
      · rw [if_neg h2]
theorem look_put1 {S : List α} (h : Up t S) (x : α) (hk : k x = 1 ∨ k x = 2) : look t (put1 k t S x) (t x) = if k x = 1 then some x else none := by
  unfold put1
  by_cases h1 : k x = 1
  · rw [if_pos h1, if_pos h1, look_put h, if_pos rfl]
  · rw [if_neg h1, if_neg h1, if_pos (hk.resolve_left h1), look_del h, if_pos rfl]
/-- What is found of a text: what its last record tells. -/
theorem look_last (A B : List α) (x : α) (hk : k x = 1 ∨ k x = 2) (hB : ∀ y ∈ B, t y = t x → k y ≠ 1 ∧ k y ≠ 2) : look t (fo k t (A ++ x :: B)) (t x) = if k x = 1 then some x else none := by
  unfold fo
  rw [List.foldl_append, List.foldl_cons, look_past B _ _ (put1_up (foldl_up A [] List.Pairwise.nil) x) hB]
  exact look_put1 (foldl_up A [] List.Pairwise.nil) x hk

theorem rput_last (x : α) : ∀ (S : List α), (∀ s ∈ S, t s < t x) → rput t x false S = S ++ [x]
  | [], _ => by simp [rput]
  | s :: S, h => by
    have h1 := h s List.mem_cons_self
    unfold rput
    have h3 : ¬ t x < t s := lx_asymm h1
    have h2 := rput_last x S (fun y hy => h y (List.mem_cons_of_mem _ hy))
    simp [h3, lx_ne h1, h2]
theorem foldl_last : ∀ (B A : List α), Up t (A ++ B) → (∀ x ∈ B, k x = 1) → B.foldl (put1 k t) A = A ++ B
  | [], A, _, _ => by simp
  | x :: B, A, h, hk => by
    have h1 : put1 k t A x = A ++ [x] := by
      unfold put1
      rw [if_pos (hk x List.mem_cons_self)]
      exact rput_last x A (fun s hs => (List.pairwise_append.1 h).2.2 s hs x List.mem_cons_self)
    rw [List.foldl_cons, h1, foldl_last B (A ++ [x]) (by simpa using h) (fun y hy => hk y (List.mem_cons_of_mem _ hy))]
    simp
/-- A state's fold is itself. -/
theorem fo_state {S : List α} (h : Up t S) (hk : ∀ x ∈ S, k x = 1) : fo k t S = S := by
  have := foldl_last (k := k) S [] (by simpa using h) hk
  simpa [fo] using this
theorem fo_fo (xs : List α) : fo k t (fo k t xs) = fo k t xs := fo_state (fo_up xs) (fun _ hx => (fo_mem hx).2)
theorem fo_parts (A B : List α) : fo k t (fo k t A ++ B) = fo k t (A ++ B) := by
  have h := fo_fo (k := k) (t := t) A
  unfold fo at *
  rw [List.foldl_append, List.foldl_append, h]

section
variable {k' : β → Int} {t' : β → List UInt8} (f : α → β) (hk : ∀ x, k' (f x) = k x) (ht : ∀ x, t' (f x) = t x)
include hk ht
omit hk in
theorem rput_map (x : α) : ∀ (S : List α) (laid : Bool), (rput t x laid S).map f = rput t' (f x) laid (S.map f)
  | [], laid => by cases laid <;> rfl
  | s :: S, laid => by
    rw [List.map_cons]
    unfold rput
    rw [List.map_append, List.map_append, rput_map x S, ht, ht]
    congr 1
    · split <;> rfl
    · congr 1
      split <;> rfl
theorem put1_map (S : List α) (x : α) : (put1 k t S x).map f = put1 k' t' (S.map f) (f x) := by
  unfold put1
  rw [hk]
  split
  · exact rput_map f ht x S false
  · split
    · exact rput_map f ht x S true
    · rfl
theorem foldl_map2 : ∀ (xs S : List α), (xs.foldl (put1 k t) S).map f = (xs.map f).foldl (put1 k' t') (S.map f)
  | [], _ => rfl
  | x :: xs, S => by
    rw [List.foldl_cons, foldl_map2 xs, List.map_cons, List.foldl_cons, put1_map f hk ht]
theorem fo_map (xs : List α) : (fo k t xs).map f = fo k' t' (xs.map f) := foldl_map2 f hk ht xs []
end

/-- What texts rise, sorted. -/
theorem sort_up {S : List α} (h : Up t S) {ss : List (List UInt8)} (hn : ss.Nodup) (hm : ∀ u, u ∈ ss ↔ (look t S u).isSome = true) : ss.mergeSort (fun x y => decide (x ≤ y)) = S.map t := by
  have hs : (S.map t).Pairwise (fun a b => a < b) := List.pairwise_map.2 h
  have hp : ss.Perm (S.map t) := by
    refine (List.perm_ext_iff_of_nodup hn (hs.imp fun hab => lx_ne hab)).2 fun u => ?_
    rw [hm u, List.mem_map]
    constructor
    · intro h1
      obtain ⟨y, hy⟩ := Option.isSome_iff_exists.1 h1
      exact ⟨y, (look_some hy).1, (look_some hy).2⟩
    · rintro ⟨y, hy, rfl⟩
      rw [look_of h hy]
      rfl
  have tr : ∀ a b c : List UInt8, leB a b = true → leB b c = true → leB a c = true := fun a b c h1 h2 => by simp only [leB, decide_eq_true_eq] at *; exact List.le_trans h1 h2
  have to : ∀ a b : List UInt8, (leB a b || leB b a) = true := fun a b => by simp only [leB, Bool.or_eq_true, decide_eq_true_eq]; exact List.le_total a b
  refine List.Perm.eq_of_pairwise (le := fun a b => leB a b = true) (fun a b _ _ h1 h2 => ?_) (List.pairwise_mergeSort tr to ss) (hs.imp fun hab => by simp only [leB, decide_eq_true_eq]; exact List.le_of_lt hab) ((List.mergeSort_perm ss leB).trans hp)
  simp only [leB, decide_eq_true_eq] at h1 h2
  exact List.le_antisymm h1 h2

theorem up_at {S : List α} (h : Up t S) {i : Nat} {y : α} (hy : S[i]? = some y) : look t S (t y) = some y := look_of h (List.mem_of_getElem? hy)
end

end Go.Proofs.Ytfgonihpakcbbaa
