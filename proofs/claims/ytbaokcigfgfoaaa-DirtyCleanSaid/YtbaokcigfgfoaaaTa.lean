/- Rows of records in memory. -/
import Derived.Test.YtbaokcigfgfoaaaRn0
import Derived.Test.YtbaokcigfgfoaaaRk0
import Derived.Test.YtbaokcigfgfoaaaMw
namespace Go.Proofs.Ytbaokcigfgfoaaa
open Go.RowKit

/-- A record among others: its fields, where its deps lie, and what they are. -/
structure Rw where
  r : Rc
  A : Option Addr
  n : Nat
  c : Nat
  l : List Dp

def Rw.cells (x : Rw) : List Value := [.int .i64 x.r.kind, .string (tx x.r.target), .int .u64 x.r.rule, .slice x.A x.n x.c, .int .u64 x.r.out, .int .u64 x.r.time, .string (tx x.r.tag)]
def rws (xs : List Rw) : List Value := xs.flatMap Rw.cells
/-- What a record says, wherever its deps lie. -/
def Rw.say (x : Rw) : Rc × List Dp := (x.r, x.l)

theorem cells_len (x : Rw) : x.cells.length = 7 := rfl
theorem rws_nil : rws [] = [] := rfl
theorem rws_cons (x : Rw) (xs : List Rw) : rws (x :: xs) = x.cells ++ rws xs := rfl
theorem rws_app (xs ys : List Rw) : rws (xs ++ ys) = rws xs ++ rws ys := List.flatMap_append
theorem rws_len : ∀ xs : List Rw, (rws xs).length = xs.length * 7
  | [] => rfl
  | x :: xs => by rw [rws_cons, List.length_append, rws_len xs, cells_len, List.length_cons]; omega
theorem rws_at : ∀ (xs : List Rw) (i : Nat) (x : Rw), xs[i]? = some x → ∀ k u, x.cells[k]? = some u → (rws xs)[i * 7 + k]? = some u
  | [], i, x, h => by simp at h
  | a :: xs, 0, x, h => fun k u hu => by
    obtain rfl : a = x := by simpa using h
    have hk : k < 7 := (List.getElem?_eq_some_iff.1 hu).1
    rw [rws_cons, List.getElem?_append_left (by rw [cells_len]; omega), Nat.zero_mul, Nat.zero_add]
    exact hu
  | a :: xs, i + 1, x, h => fun k u hu => by
    rw [rws_cons, List.getElem?_append_right (by rw [cells_len]; omega), cells_len, show (i + 1) * 7 + k - 7 = i * 7 + k by omega]
    exact rws_at xs i x (by simpa using h) k u hu
theorem rws_back : ∀ (xs : List Rw) (j : Nat) (u : Value), (rws xs)[j]? = some u → ∃ x, xs[j / 7]? = some x ∧ x.cells[j % 7]? = some u
  | [], j, u, h => by simp [rws] at h
  | a :: xs, j, u, h => by
    rw [rws_cons] at h
    rcases Nat.lt_or_ge j 7 with hlt | hge
    · rw [List.getElem?_append_left (by rw [cells_len]; exact hlt)] at h
      exact ⟨a, by rw [show j / 7 = 0 by omega]; rfl, by rw [show j % 7 = j by omega]; exact h⟩
    · rw [List.getElem?_append_right (by rw [cells_len]; exact hge), cells_len] at h
      obtain ⟨x, h1, h2⟩ := rws_back xs (j - 7) u h
      exact ⟨x, by rw [show j / 7 = (j - 7) / 7 + 1 by omega]; simpa using h1, by rw [show j % 7 = (j - 7) % 7 by omega]; exact h2⟩
theorem rws_one (xs : List Rw) : ∀ u ∈ rws xs, u.oneCell' = true := by
  intro u hu
  obtain ⟨x, _, hx⟩ := List.mem_flatMap.1 hu
  simp only [Rw.cells, List.mem_cons, List.not_mem_nil, or_false] at hx
  rcases hx with rfl | rfl | rfl | rfl | rfl | rfl | rfl <;> rfl

theorem add_plus (a : Addr) (m k : Nat) : a.add (m + (k + 1)) = ⟨(a.add m).block, (a.add m).off + (k + 1), none⟩ := by
  unfold Addr.add
  by_cases h : m = 0
  · subst h; simp
  · simp [h, Nat.add_assoc]

/-- The cells of one record of a row. -/
theorem recs_cells {W : World} {B : Nat} {A : Option Addr} {n : Nat} {xs : List Rw} (h : Reads W B 7 A n (rws xs)) (i : Nat) (x : Rw) (hx : xs[i]? = some x) :
    ∃ ad : Addr, A = some ad ∧ ad.block < B ∧ W.cell? (ad.add (i * 7)) = some (.int .i64 x.r.kind) ∧ W.cell? ⟨(ad.add (i * 7)).block, (ad.add (i * 7)).off + 1, none⟩ = some (.string (tx x.r.target)) ∧ W.cell? ⟨(ad.add (i * 7)).block, (ad.add (i * 7)).off + 2, none⟩ = some (.int .u64 x.r.rule) ∧ W.cell? ⟨(ad.add (i * 7)).block, (ad.add (i * 7)).off + 3, none⟩ = some (.slice x.A x.n x.c) ∧ W.cell? ⟨(ad.add (i * 7)).block, (ad.add (i * 7)).off + 4, none⟩ = some (.int .u64 x.r.out) ∧ W.cell? ⟨(ad.add (i * 7)).block, (ad.add (i * 7)).off + 5, none⟩ = some (.int .u64 x.r.time) ∧ W.cell? ⟨(ad.add (i * 7)).block, (ad.add (i * 7)).off + 6, none⟩ = some (.string (tx x.r.tag)) := by
  have hn : 0 < n := by
    have h1 := h.1
    rw [rws_len] at h1
    have := (List.getElem?_eq_some_iff.1 hx).1
    omega
  obtain ⟨ad, rfl, hb, hc⟩ := h.2 hn
  have hat := fun k u hu => hc _ _ (rws_at xs i x hx k u hu)
  refine ⟨ad, rfl, hb, hat 0 _ rfl, ?_, ?_, ?_, ?_, ?_, ?_⟩
  · rw [← add_plus ad (i * 7) 0]; exact hat 1 _ rfl
  · rw [← add_plus ad (i * 7) 1]; exact hat 2 _ rfl
  · rw [← add_plus ad (i * 7) 2]; exact hat 3 _ rfl
  · rw [← add_plus ad (i * 7) 3]; exact hat 4 _ rfl
  · rw [← add_plus ad (i * 7) 4]; exact hat 5 _ rfl
  · rw [← add_plus ad (i * 7) 5]; exact hat 6 _ rfl

/-- Records that lie in memory, below a bound. -/
def Recs (w : World) (B : Nat) (A : Option Addr) (n : Nat) (xs : List Rw) : Prop :=
  Reads w B 7 A n (rws xs) ∧ ∀ x ∈ xs, Reads w B 3 x.A x.n (dps x.l) ∧ (x.A = none → x.c = 0)

theorem Recs.len {w : World} {B : Nat} {A : Option Addr} {n : Nat} {xs : List Rw} (h : Recs w B A n xs) : xs.length = n := by
  have := h.1.1
  rw [rws_len] at this
  omega
theorem Recs.more {w : World} {B B' : Nat} {A : Option Addr} {n : Nat} {xs : List Rw} (h : Recs w B A n xs) (hB : B ≤ B') : Recs w B' A n xs :=
  ⟨h.1.more hB, fun x hx => ⟨(h.2 x hx).1.more hB, (h.2 x hx).2⟩⟩
theorem Recs.below {w w' : World} {B : Nat} {A : Option Addr} {n : Nat} {xs : List Rw} (h : Recs w B A n xs) (hb : Below B w w') : Recs w' B A n xs :=
  ⟨h.1.below hb, fun x hx => ⟨(h.2 x hx).1.below hb, (h.2 x hx).2⟩⟩
theorem Recs.nil (w : World) (B : Nat) (A : Option Addr) : Recs w B A 0 [] := ⟨⟨by simp [rws], fun h => absurd h (by omega)⟩, by simp⟩

/-- Deps in memory of their own stay where a row of records grows. -/
theorem deps_kept {w w' : World} {base b n c k : Nat} {A : Option Addr} {l : List Dp} {v : Value} {xs : List Value} (hz : Deps w base A n c l) (hv : w.ownsRow b 36 7 v k xs) (hg : w.grownBy w' v.ownBlock) : Deps w' base A n c l :=
  ⟨own_kept hz.1 (own_apart hv hz.1 (by decide)) hg, hz.2⟩
theorem deps_below {w w' : World} {base n c : Nat} {A : Option Addr} {l : List Dp} (h : Deps w base A n c l) (hb : Below w.heap.size w w') : Deps w' base A n c l := ⟨own_below h.1 hb, h.2⟩
theorem deps_alloc {w : World} {base n c : Nat} {A : Option Addr} {l : List Dp} (h : Deps w base A n c l) (o : Obj) : Deps (w.alloc o) base A n c l := ⟨World.ownsRow.alloc h.1 o, h.2⟩
theorem deps_less {w : World} {base base' n c : Nat} {A : Option Addr} {l : List Dp} (h : Deps w base A n c l) (hb : base' ≤ base) : Deps w base' A n c l := ⟨own_less h.1 hb, h.2⟩

/-- An array of one record, just laid. -/
theorem reads_rec (w : World) (x : Rw) : Reads (w.alloc (.cells #[.int .i64 x.r.kind, .string (tx x.r.target), .int .u64 x.r.rule, .slice x.A x.n x.c, .int .u64 x.r.out, .int .u64 x.r.time, .string (tx x.r.tag)] 36)) (w.heap.size + 1) 7 (some ⟨w.heap.size, 0, none⟩) 1 (rws [x]) := by
  have hh := one_new w (.cells #[.int .i64 x.r.kind, .string (tx x.r.target), .int .u64 x.r.rule, .slice x.A x.n x.c, .int .u64 x.r.out, .int .u64 x.r.time, .string (tx x.r.tag)] 36)
  refine ⟨rfl, fun _ => ⟨_, rfl, by show w.heap.size < _; omega, fun j u hu => ?_⟩⟩
  have hj : j < 7 := (List.getElem?_eq_some_iff.1 hu).1
  have h2 := at_cell (i := j) hh (by simpa [rws, Rw.cells] using hu)
  rw [show (⟨w.heap.size, 0, none⟩ : Addr).add j = ⟨w.heap.size, j, none⟩ from by unfold Addr.add; split <;> simp_all]
  exact h2

theorem recs_row (W : World) (ad : Addr) (P : Rw → Prop) : ∀ n : Nat, (∀ i, i < n → ∃ x : Rw, P x ∧ ∀ k u, x.cells[k]? = some u → W.cell? (ad.add (i * 7 + k)) = some u) →
    ∃ xs : List Rw, xs.length = n ∧ (∀ x ∈ xs, P x) ∧ ∀ i x, xs[i]? = some x → ∀ k u, x.cells[k]? = some u → W.cell? (ad.add (i * 7 + k)) = some u
  | 0, _ => ⟨[], rfl, by simp, by simp⟩
  | n + 1, h => by
    obtain ⟨ts, h1, h2, h3⟩ := recs_row W ad P n (fun i hi => h i (by omega))
    obtain ⟨t, g1, g2⟩ := h n (by omega)
    refine ⟨ts ++ [t], by simp [h1], ?_, ?_⟩
    · intro u hu
      rcases List.mem_append.1 hu with hu | hu
      · exact h2 u hu
      · have : u = t := by simpa using hu
        rw [this]; exact g1
    · intro i u hu
      rcases Nat.lt_or_ge i ts.length with hlt | hge
      · rw [List.getElem?_append_left hlt] at hu
        exact h3 i u hu
      · rw [List.getElem?_append_right hge] at hu
        have hi : i = n := by
          rcases Nat.lt_or_ge (i - ts.length) 1 with h4 | h4
          · omega
          · rw [List.getElem?_eq_none (by simpa using h4)] at hu; cases hu
        subst hi
        rw [h1, Nat.sub_self] at hu
        have : t = u := by simpa using hu
        rw [← this]; exact g2

end Go.Proofs.Ytbaokcigfgfoaaa
