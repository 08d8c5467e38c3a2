/- What FoldOf and FoldParts lean on: folds of folds, rows that are parted, a cut between two pieces of code. -/
import Derived.WalkKit
import Derived.Test.YtbgjlkbfelgglaaGp
import Derived.Test.YtbgjlkbfelgglaaGg0
import Derived.Test.YtbgjlkbfelgglaaGo
import Derived.Test.YtbgjlkbfelgglaaTb
import Derived.Test.YtbgjlkbfelgglaaH3
namespace Go.Proofs.Ytbgjlkbfelgglaa
open Go.RowKit

/-- A cut: behind the first piece M holds, and M is enough for what comes. -/
theorem wp_cut {P : Program} {c : Code} {Q : Exit → Act → World → Prop} {K : Act → World → Prop} {a : Act} {w : World} (M : Act → World → Prop) (hm : ∀ a w, M a w → K a w) (h : c.wp P (Exit.then M Q) a w) : c.wp P (Exit.then K Q) a w :=
  Code.wp_mono (fun e a w q => by cases e <;> first | exact hm _ _ q | exact q) h
theorem own_emptyN (w : World) (e : TypeId) (size : Nat) : (w.alloc (.cells #[] e)).ownsRow w.heap.size e size (.slice (some ⟨w.heap.size, 0, none⟩) 0 0) 0 [] :=
  ⟨by simp, .inr ⟨w.heap.size, 0, #[], rfl, Nat.le_refl _, (by show (w.heap.push _)[w.heap.size]? = _; exact Array.getElem?_push_size), Nat.le_refl _, by unfold maxLen; omega, by simp, by simp⟩⟩

def kP (p : Rc × List Dp) : Int := p.1.kind
def tP (p : Rc × List Dp) : List UInt8 := p.1.target
theorem sayfo (xs : List Rw) : (fo Rw.k Rw.t xs).map Rw.say = fo kP tP (xs.map Rw.say) := fo_map (k := Rw.k) (t := Rw.t) (k' := kP) (t' := tP) Rw.say (fun _ => rfl) (fun _ => rfl) xs
theorem again_fo {xs zs us : List Rw} (hz : zs.map Rw.say = (fo Rw.k Rw.t xs).map Rw.say) (hu : us.map Rw.say = (fo Rw.k Rw.t zs).map Rw.say) : us.map Rw.say = zs.map Rw.say := by
  rw [hu, sayfo, hz, ← sayfo, fo_fo]
theorem parted_fo {xs zs ps us : List Rw} (k : Nat) (hp : ps.map Rw.say = (fo Rw.k Rw.t (xs.take k)).map Rw.say) (hz : zs.map Rw.say = (fo Rw.k Rw.t xs).map Rw.say) (hu : us.map Rw.say = (fo Rw.k Rw.t (ps ++ xs.drop k)).map Rw.say) : us.map Rw.say = zs.map Rw.say := by
  rw [hu, sayfo, List.map_append, hp, ← List.map_append, ← sayfo, fo_parts, List.take_append_drop, hz]

/-- Rows that are no greater than is gone through. -/
def Ok60 (zs : List Rw) : Prop := ∀ z ∈ zs, z.t.length ≤ maxLen ∧ z.l.length ≤ 60
theorem Ok60.says {zs ys : List Rw} (h : zs.map Rw.say = ys.map Rw.say) (hy : Ok60 ys) : Ok60 zs := fun z hz => by
  have h1 : z.say ∈ ys.map Rw.say := by rw [← h]; exact List.mem_map_of_mem hz
  obtain ⟨y, hm, e⟩ := List.mem_map.1 h1
  obtain ⟨e1, e2⟩ := say_eq.1 e
  have h2 := hy y hm
  unfold Rw.t at h2 ⊢
  rw [e1, e2] at h2
  exact h2
theorem Ok60.fo {xs : List Rw} (h : Ok60 xs) : Ok60 (fo Rw.k Rw.t xs) := fun z hz => h z (fo_mem hz).1
theorem Ok60.app {xs ys : List Rw} (h : Ok60 xs) (h2 : Ok60 ys) : Ok60 (xs ++ ys) := fun z hz => by
  rcases List.mem_append.1 hz with hz | hz
  · exact h z hz
  · exact h2 z hz
theorem Ok60.take {xs : List Rw} (h : Ok60 xs) (k : Nat) : Ok60 (xs.take k) := fun z hz => h z (List.mem_of_mem_take hz)
theorem Ok60.drop {xs : List Rw} (h : Ok60 xs) (k : Nat) : Ok60 (xs.drop k) := fun z hz => h z (List.mem_of_mem_drop hz)
theorem recs_ln {w : World} {B : Nat} {A : Option Addr} {n : Nat} {zs : List Rw} (h : Recs w B A n zs) {z : Rw} (hz : z ∈ zs) : z.l.length = z.n := by
  have := (h.2 z hz).1.1
  rw [dps_len] at this
  omega
theorem Ok60.sizes {w : World} {B : Nat} {A : Option Addr} {n : Nat} {xs : List Rw} (h : Ok60 xs) (hr : Recs w B A n xs) : ∀ x ∈ xs, x.t.length ≤ maxLen ∧ x.n ≤ 1000000 := fun x hx => by
  have h1 := h x hx
  have h2 := recs_ln hr hx
  exact ⟨h1.1, by omega⟩
theorem state_recs {w : World} {base : Nat} {A : Option Addr} {n c : Nat} {zs : List Rw} (h : StateIn w base A n c zs) : Recs w w.heap.size A n zs :=
  ⟨Reads.of_own h.1, fun z hz => ⟨Reads.of_own (h.2.2 z hz).1, (h.2.2 z hz).2⟩⟩
/-- fold.Of, at rows that aren't great. -/
theorem fof60 (A : Option Addr) (n c : Nat) (xs : List Rw) (hn : n ≤ 1000000) (hk : Ok60 xs) (w : World) (h : Recs w w.heap.size A n xs) :
    Calls Try.prog 10 #[.slice A n c] w fun e w' => ∃ A' n' c' zs, e = .returned (.slice A' n' c') ∧ n' ≤ n ∧ zs.map Rw.say = (fo Rw.k Rw.t xs).map Rw.say ∧ Ok60 zs ∧ StateIn w' w.heap.size A' n' c' zs ∧ Below w.heap.size w w' :=
  (fof_any A n c xs hn (hk.sizes h) w h).mono fun e w' ⟨A', c', zs, he, hs, hst, hb⟩ => ⟨A', _, c', zs, he, by have := fo_len (k := Rw.k) (t := Rw.t) xs; have := h.len; omega, hs, Ok60.says hs hk.fo, hst, hb⟩
theorem Recs.cut {w : World} {B : Nat} {A : Option Addr} {n c k : Nat} {xs : List Rw} (h : Recs w B A n xs) (hk : k ≤ n) (hc : n ≤ c) : Recs w B (if c = k then A else A.map (·.add (k * 7))) (n - k) (xs.drop k) := by
  refine ⟨?_, fun x hx => h.2 x (List.mem_of_mem_drop hx)⟩
  have h1 := h.1.cut (k := k) (cap := c) hk hc
  have e : ∀ (k : Nat) (xs : List Rw), (rws xs).drop (k * 7) = rws (xs.drop k) := fun k => by
    induction k with
    | zero => intro xs; simp
    | succ k ih =>
      intro xs
      cases xs with
      | nil => simp [rws]
      | cons x xs => rw [rws_cons, List.drop_succ_cons, show (k + 1) * 7 = x.cells.length + k * 7 by rw [cells_len]; omega, List.drop_append, List.drop_of_length_le (by omega), Nat.add_sub_cancel_left, ih, List.nil_append]
  rw [e] at h1
  exact h1
theorem Recs.front {w : World} {B : Nat} {A : Option Addr} {n k : Nat} {xs : List Rw} (h : Recs w B A n xs) (hk : k ≤ n) : Recs w B A k (xs.take k) := by
  have hl := h.len
  refine ⟨⟨by rw [rws_len, List.length_take]; congr 1; omega, fun h0 => ?_⟩, fun x hx => h.2 x (List.mem_of_mem_take hx)⟩
  obtain ⟨ad, rfl, hb, hc⟩ := h.1.2 (by omega)
  refine ⟨ad, rfl, hb, fun j u hu => hc j u ?_⟩
  have e : rws xs = rws (xs.take k) ++ rws (xs.drop k) := by rw [← rws_app, List.take_append_drop]
  rw [e, List.getElem?_append_left (List.getElem?_eq_some_iff.1 hu).1]
  exact hu
theorem cut_none {A : Option Addr} {c k s : Nat} (h : A = none → c = 0) : (if c = k then A else A.map (·.add (k * s))) = none → c - k = 0 := by
  cases A with
  | none => intro _; have := h rfl; omega
  | some ad => intro h2; split at h2 <;> cases h2

/-- Of the first j behind the i-th none tells of a target. -/
def LP (xs : List Rw) (i : Nat) (t : List UInt8) (j : Nat) : Prop := ∀ y ∈ (xs.drop (i + 1)).take j, y.t = t → y.k ≠ 1 ∧ y.k ≠ 2
theorem lp_zero (xs : List Rw) (i : Nat) (t : List UInt8) : LP xs i t 0 := by simp [LP]
theorem lp_step {xs : List Rw} {i j : Nat} {t : List UInt8} {y : Rw} (hy : (xs.drop (i + 1))[j]? = some y) : LP xs i t (j + 1) ↔ LP xs i t j ∧ (y.t = t → y.k ≠ 1 ∧ y.k ≠ 2) := by
  unfold LP
  rw [List.take_add_one, hy]
  constructor
  · intro h
    exact ⟨fun z hz => h z (List.mem_append.2 (.inl hz)), h y (List.mem_append.2 (.inr (by simp)))⟩
  · rintro ⟨h1, h2⟩ z hz
    rcases List.mem_append.1 hz with hz | hz
    · exact h1 z hz
    · obtain rfl : z = y := by simpa using hz
      exact h2
theorem lp_all {xs : List Rw} {i n : Nat} {t : List UInt8} (hl : xs.length = n) (h : LP xs i t (n - (i + 1))) : ∀ y ∈ xs.drop (i + 1), y.t = t → y.k ≠ 1 ∧ y.k ≠ 2 := fun y hy => h y (by rw [List.take_of_length_le (by rw [List.length_drop, hl]; omega)]; exact hy)
end Go.Proofs.Ytbgjlkbfelgglaa
