/- Nodes in memory. -/
import Derived.Test.YtcfmpajdhbcimaaXa
import Derived.Test.YtcfmpajdhbcimaaK
import Derived.Test.YtcfmpajdhbcimaaMw
namespace Go.Proofs.Ytcfmpajdhbcimaa
open Go.RowKit

/-- A node among others: what it says, and where its deps lie. -/
structure Nw where
  d : Nd
  A : Option Addr
  n : Nat
  c : Nat

def Nw.cells (x : Nw) : List Value := [.string (tx x.d.name), .bool x.d.src, .int .u64 x.d.rule, .slice x.A x.n x.c]
def Nw.val (x : Nw) : Value := .agg #[.string (tx x.d.name), .bool x.d.src, .int .u64 x.d.rule, .slice x.A x.n x.c]
def nws (xs : List Nw) : List Value := xs.flatMap Nw.cells
def nds (xs : List Nw) : List Nd := xs.map Nw.d

theorem ncells_len (x : Nw) : x.cells.length = 4 := rfl
theorem nws_cons (x : Nw) (xs : List Nw) : nws (x :: xs) = x.cells ++ nws xs := rfl
theorem nws_app (xs ys : List Nw) : nws (xs ++ ys) = nws xs ++ nws ys := List.flatMap_append
theorem nws_len : ∀ xs : List Nw, (nws xs).length = xs.length * 4
  | [] => rfl
  | x :: xs => by rw [nws_cons, List.length_append, nws_len xs, ncells_len, List.length_cons]; omega
theorem nws_at : ∀ (xs : List Nw) (i : Nat) (x : Nw), xs[i]? = some x → ∀ k u, x.cells[k]? = some u → (nws xs)[i * 4 + k]? = some u
  | [], i, x, h => by simp at h
  | a :: xs, 0, x, h => fun k u hu => by
    obtain rfl : a = x := by simpa using h
    have hk : k < 4 := (List.getElem?_eq_some_iff.1 hu).1
    rw [nws_cons, List.getElem?_append_left (by rw [ncells_len]; omega), Nat.zero_mul, Nat.zero_add]
    exact hu
  | a :: xs, i + 1, x, h => fun k u hu => by
    rw [nws_cons, List.getElem?_append_right (by rw [ncells_len]; omega), ncells_len, show (i + 1) * 4 + k - 4 = i * 4 + k by omega]
    exact nws_at xs i x (by simpa using h) k u hu
theorem nws_back : ∀ (xs : List Nw) (j : Nat) (u : Value), (nws xs)[j]? = some u → ∃ x, xs[j / 4]? = some x ∧ x.cells[j % 4]? = some u
  | [], j, u, h => by simp [nws] at h
  | a :: xs, j, u, h => by
    rw [nws_cons] at h
    rcases Nat.lt_or_ge j 4 with hlt | hge
    · rw [List.getElem?_append_left (by rw [ncells_len]; exact hlt)] at h
      exact ⟨a, by rw [show j / 4 = 0 by omega]; rfl, by rw [show j % 4 = j by omega]; exact h⟩
    · rw [List.getElem?_append_right (by rw [ncells_len]; exact hge), ncells_len] at h
      obtain ⟨x, h1, h2⟩ := nws_back xs (j - 4) u h
      exact ⟨x, by rw [show j / 4 = (j - 4) / 4 + 1 by omega]; simpa using h1, by rw [show j % 4 = (j - 4) % 4 by omega]; exact h2⟩
theorem nws_one (xs : List Nw) : ∀ u ∈ nws xs, u.oneCell' = true := by
  intro u hu
  obtain ⟨x, _, hx⟩ := List.mem_flatMap.1 hu
  simp only [Nw.cells, List.mem_cons, List.not_mem_nil, or_false] at hx
  rcases hx with rfl | rfl | rfl | rfl <;> rfl

theorem nadd_plus (a : Addr) (m k : Nat) : a.add (m + (k + 1)) = ⟨(a.add m).block, (a.add m).off + (k + 1), none⟩ := by
  unfold Addr.add
  by_cases h : m = 0
  · subst h; simp
  · simp [h, Nat.add_assoc]

/-- The cells of one node of a row. -/
theorem nodes_cells {W : World} {B : Nat} {A : Option Addr} {n : Nat} {xs : List Nw} (h : Reads W B 4 A n (nws xs)) (i : Nat) (x : Nw) (hx : xs[i]? = some x) :
    ∃ ad : Addr, A = some ad ∧ ad.block < B ∧ W.cell? (ad.add (i * 4)) = some (.string (tx x.d.name)) ∧ W.cell? ⟨(ad.add (i * 4)).block, (ad.add (i * 4)).off + 1, none⟩ = some (.bool x.d.src) ∧ W.cell? ⟨(ad.add (i * 4)).block, (ad.add (i * 4)).off + 2, none⟩ = some (.int .u64 x.d.rule) ∧ W.cell? ⟨(ad.add (i * 4)).block, (ad.add (i * 4)).off + 3, none⟩ = some (.slice x.A x.n x.c) := by
  have hn : 0 < n := by
    have h1 := h.1
    rw [nws_len] at h1
    have := (List.getElem?_eq_some_iff.1 hx).1
    omega
  obtain ⟨ad, rfl, hb, hc⟩ := h.2 hn
  have hat := fun k u hu => hc _ _ (nws_at xs i x hx k u hu)
  refine ⟨ad, rfl, hb, hat 0 _ rfl, ?_, ?_, ?_⟩
  · rw [← nadd_plus ad (i * 4) 0]; exact hat 1 _ rfl
  · rw [← nadd_plus ad (i * 4) 1]; exact hat 2 _ rfl
  · rw [← nadd_plus ad (i * 4) 2]; exact hat 3 _ rfl

/-- A node whose deps lie in memory, below a bound. -/
def NIn (w : World) (B : Nat) (x : Nw) : Prop := Reads w B 1 x.A x.n (x.d.deps.map tsv)
theorem NIn.len {w : World} {B : Nat} {x : Nw} (h : NIn w B x) : x.d.deps.length = x.n := by have := h.1; simpa using this
/-- Nodes that lie in memory, below a bound. -/
def Nodes (w : World) (B : Nat) (A : Option Addr) (n : Nat) (xs : List Nw) : Prop := Reads w B 4 A n (nws xs) ∧ ∀ x ∈ xs, NIn w B x

theorem Nodes.len {w : World} {B : Nat} {A : Option Addr} {n : Nat} {xs : List Nw} (h : Nodes w B A n xs) : xs.length = n := by
  have := h.1.1
  rw [nws_len] at this
  omega
theorem Nodes.more {w : World} {B B' : Nat} {A : Option Addr} {n : Nat} {xs : List Nw} (h : Nodes w B A n xs) (hB : B ≤ B') : Nodes w B' A n xs :=
  ⟨h.1.more hB, fun x hx => Reads.more (h.2 x hx) hB⟩
theorem Nodes.below {w w' : World} {B : Nat} {A : Option Addr} {n : Nat} {xs : List Nw} (h : Nodes w B A n xs) (hb : Below B w w') : Nodes w' B A n xs :=
  ⟨h.1.below hb, fun x hx => Reads.below (h.2 x hx) hb⟩
theorem Nodes.nil (w : World) (B : Nat) (A : Option Addr) : Nodes w B A 0 [] := ⟨⟨by simp [nws], fun h => absurd h (by omega)⟩, by simp⟩
theorem nds_at {xs : List Nw} {i : Nat} {x : Nw} (h : xs[i]? = some x) : (nds xs)[i]? = some x.d := by unfold nds; rw [List.getElem?_map, h]; rfl
theorem nds_len (xs : List Nw) : (nds xs).length = xs.length := List.length_map ..
/-- No text too long for there to be one. -/
def NFits (x : Nd) : Prop := x.name.length ≤ maxLen ∧ ∀ d ∈ x.deps, d.length ≤ maxLen

theorem nodes_row (W : World) (ad : Addr) (P : Nw → Prop) : ∀ n : Nat, (∀ i, i < n → ∃ x : Nw, P x ∧ ∀ k u, x.cells[k]? = some u → W.cell? (ad.add (i * 4 + k)) = some u) →
    ∃ xs : List Nw, xs.length = n ∧ (∀ x ∈ xs, P x) ∧ ∀ i x, xs[i]? = some x → ∀ k u, x.cells[k]? = some u → W.cell? (ad.add (i * 4 + k)) = some u
  | 0, _ => ⟨[], rfl, by simp, by simp⟩
  | n + 1, h => by
    obtain ⟨ts, h1, h2, h3⟩ := nodes_row W ad P n (fun i hi => h i (by omega))
    obtain ⟨t, g1, g2⟩ := h n (by omega)
    refine ⟨ts ++ [t], by simp [h1], ?_, ?_⟩
    · intro u hu
      rcases List.mem_append.1 hu with hu | hu
      · exact h2 u hu
      · have : u = t := by simpa using hu
        rw [this]; exact g1
    · intro i u hu
      rcases Nat.lt_or_ge i ts.length with hlt | hge
      · rw [List.getElem?_append_left hlt] at hu
        exact h3 i u hu
      · rw [List.getElem?_append_right hge] at hu
        have hi : i = n := by
          rcases Nat.lt_or_ge (i - ts.length) 1 with h4 | h4
          · omega
          · rw [List.getElem?_eq_none (by simpa using h4)] at hu; cases hu
        subst hi
        rw [h1, Nat.sub_self] at hu
        have : t = u := by simpa using hu
        rw [← this]; exact g2

end Go.Proofs.Ytcfmpajdhbcimaa
