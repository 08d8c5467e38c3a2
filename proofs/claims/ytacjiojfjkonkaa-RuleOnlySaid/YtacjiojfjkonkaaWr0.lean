/- Steps in memory: name, ran, contents; the way down. -/
import Derived.Test.YtacjiojfjkonkaaDm
import Derived.Test.YtacjiojfjkonkaaXd0
import Derived.Test.YtacjiojfjkonkaaMw
namespace Go.Proofs.Ytacjiojfjkonkaa
open Go.ChangeShapes Go.WideShapes Go.ChangeAt Go.RowKit Go.Deep

/-- A step. -/
structure Stp where
  name : List UInt8
  ran : Bool
  con : Q64

def Stp.cells (x : Stp) : List Value := [.string (tx x.name), .bool x.ran, qv x.con]
def Stp.val (x : Stp) : Value := .agg #[.string (tx x.name), .bool x.ran, qv x.con]
def sts (xs : List Stp) : List Value := xs.flatMap Stp.cells
theorem scells_len (x : Stp) : x.cells.length = 3 := rfl
theorem sts_cons (x : Stp) (xs : List Stp) : sts (x :: xs) = x.cells ++ sts xs := rfl
theorem sts_app (xs ys : List Stp) : sts (xs ++ ys) = sts xs ++ sts ys := List.flatMap_append
theorem sts_len : ∀ xs : List Stp, (sts xs).length = xs.length * 3
  | [] => rfl
  | x :: xs => by rw [sts_cons, List.length_append, sts_len xs, scells_len, List.length_cons]; omega
theorem sts_at : ∀ (xs : List Stp) (i : Nat) (x : Stp), xs[i]? = some x → ∀ k u, x.cells[k]? = some u → (sts xs)[i * 3 + k]? = some u
  | [], i, x, h => by simp at h
  | a :: xs, 0, x, h => fun k u hu => by
    obtain rfl : a = x := by simpa using h
    have hk : k < 3 := (List.getElem?_eq_some_iff.1 hu).1
    rw [sts_cons, List.getElem?_append_left (by rw [scells_len]; omega), Nat.zero_mul, Nat.zero_add]
    exact hu
  | a :: xs, i + 1, x, h => fun k u hu => by
    rw [sts_cons, List.getElem?_append_right (by rw [scells_len]; omega), scells_len, show (i + 1) * 3 + k - 3 = i * 3 + k by omega]
    exact sts_at xs i x (by simpa using h) k u hu
theorem sts_back : ∀ (xs : List Stp) (j : Nat) (u : Value), (sts xs)[j]? = some u → ∃ x, xs[j / 3]? = some x ∧ x.cells[j % 3]? = some u
  | [], j, u, h => by simp [sts] at h
  | a :: xs, j, u, h => by
    rw [sts_cons] at h
    rcases Nat.lt_or_ge j 3 with hlt | hge
    · rw [List.getElem?_append_left (by rw [scells_len]; exact hlt)] at h
      exact ⟨a, by rw [show j / 3 = 0 by omega]; rfl, by rw [show j % 3 = j by omega]; exact h⟩
    · rw [List.getElem?_append_right (by rw [scells_len]; exact hge), scells_len] at h
      obtain ⟨x, h1, h2⟩ := sts_back xs (j - 3) u h
      exact ⟨x, by rw [show j / 3 = (j - 3) / 3 + 1 by omega]; simpa using h1, by rw [show j % 3 = (j - 3) % 3 by omega]; exact h2⟩
theorem sts_one (xs : List Stp) : ∀ u ∈ sts xs, u.oneCell' = true := by
  intro u hu
  obtain ⟨x, _, hx⟩ := List.mem_flatMap.1 hu
  simp only [Stp.cells, List.mem_cons, List.not_mem_nil, or_false] at hx
  rcases hx with rfl | rfl | rfl <;> rfl
/-- Steps in memory. -/
def Steps (W : World) (B : Nat) (A : Option Addr) (n : Nat) (xs : List Stp) : Prop := Reads W B 3 A n (sts xs)
theorem Steps.len {W : World} {B : Nat} {A : Option Addr} {n : Nat} {xs : List Stp} (h : Steps W B A n xs) : xs.length = n := by
  have := h.1
  rw [sts_len] at this
  omega
theorem Steps.more {W : World} {B B' : Nat} {A : Option Addr} {n : Nat} {xs : List Stp} (h : Steps W B A n xs) (hB : B ≤ B') : Steps W B' A n xs := Reads.more h hB
theorem Steps.below {W W' : World} {B : Nat} {A : Option Addr} {n : Nat} {xs : List Stp} (h : Steps W B A n xs) (hb : Below B W W') : Steps W' B A n xs := Reads.below h hb
theorem sadd_plus (a : Addr) (m k : Nat) : a.add (m + (k + 1)) = ⟨(a.add m).block, (a.add m).off + (k + 1), none⟩ := by
  unfold Addr.add
  by_cases h : m = 0
  · subst h; simp
  · simp [h, Nat.add_assoc]
/-- The cells of one step of a row. -/
theorem steps_cells {W : World} {B : Nat} {A : Option Addr} {n : Nat} {xs : List Stp} (h : Steps W B A n xs) (i : Nat) (x : Stp) (hx : xs[i]? = some x) :
    ∃ ad : Addr, A = some ad ∧ ad.block < B ∧ W.cell? (ad.add (i * 3)) = some (.string (tx x.name)) ∧ W.cell? ⟨(ad.add (i * 3)).block, (ad.add (i * 3)).off + 1, none⟩ = some (.bool x.ran) ∧ W.cell? ⟨(ad.add (i * 3)).block, (ad.add (i * 3)).off + 2, none⟩ = some (qv x.con) := by
  have hn : 0 < n := by
    have h1 := h.len
    have := (List.getElem?_eq_some_iff.1 hx).1
    omega
  obtain ⟨ad, rfl, hb, hc⟩ := h.2 hn
  have hat := fun k u hu => hc _ _ (sts_at xs i x hx k u hu)
  refine ⟨ad, rfl, hb, hat 0 _ rfl, ?_, ?_⟩
  · rw [← sadd_plus ad (i * 3) 0]; exact hat 1 _ rfl
  · rw [← sadd_plus ad (i * 3) 1]; exact hat 2 _ rfl

theorem n_step : Try.prog.cellsOf 44 = 3 := by kernel_rfl
theorem trod_struct3 {H : Type} {enc : TypeId × Value → H} {P : Program} {w : World} {base : Nat} {spare : Nat → Bool} {held : Bool} {t : TypeId} {f0 f1 f2 : Field} {fuel : Nat} {cs : List Value} {x : DataW H × List MemPlace} (ht : P.underlying t = some (.struct #[f0, f1, f2])) (h : DataW.trod enc P w base spare held fuel t cs = some x) :
    ∃ y0 y1 y2 n, cs.length = P.cellsOf t ∧ DataW.trod enc P w base spare held n f0.type ((cs.drop f0.offset).take (P.cellsOf f0.type)) = some y0 ∧ DataW.trod enc P w base spare held n f1.type ((cs.drop f1.offset).take (P.cellsOf f1.type)) = some y1 ∧ DataW.trod enc P w base spare held n f2.type ((cs.drop f2.offset).take (P.cellsOf f2.type)) = some y2 := by
  obtain ⟨xs, n, _, rfl, hl, hlen, hf⟩ := DataW.trod_struct ht h
  match xs, hlen with
  | [y0, y1, y2], _ => exact ⟨y0, y1, y2, n, hl, by simpa using hf 0 f0 rfl, by simpa using hf 1 f1 rfl, by simpa using hf 2 f2 rfl⟩
/-- The cells of a step, out of its data. -/
theorem open_scells {H : Type} {enc : TypeId × Value → H} {W : World} {fuel : Nat} {cs : List Value} {x : DataW H × List MemPlace} (hf : DataW.trod enc Try.prog W 0 (fun _ => true) true fuel 44 cs = some x) :
    ∃ x : Stp, cs = x.cells ∧ x.name.length ≤ maxLen := by
  obtain ⟨y0, y1, y2, n', hl, g0, g1, g2⟩ := trod_struct3 Try.underlying44 hf
  rw [n_step] at hl
  rw [n_str] at g0
  rw [n_bool] at g1
  rw [n_u64] at g2
  obtain ⟨z0, e0, _, w0⟩ := DataW.trod_string Try.underlying9 g0
  obtain ⟨z1, e1, _⟩ := DataW.trod_bool Try.underlying4 g1
  obtain ⟨z2, e2, _, w2⟩ := DataW.trod_int Try.underlying34 g2
  obtain ⟨m, rfl, hm⟩ := nat_u64 w2
  refine ⟨⟨z0.data.toList, z1, BitVec.ofNat 64 m⟩, ?_, by rw [Array.length_toList]; exact w0⟩
  match cs, hl with
  | [c0, c1, c2], _ =>
    have f0 := n_one_at e0
    have f1 := n_one_at e1
    have f2 := n_one_at e2
    simp at f0 f1 f2
    subst f0 f1 f2
    unfold Stp.cells
    rw [qv_ofNat hm, n_tx_back]

theorem steps_row (W : World) (ad : Addr) (P : Stp → Prop) : ∀ n : Nat, (∀ i, i < n → ∃ x : Stp, P x ∧ ∀ k u, x.cells[k]? = some u → W.cell? (ad.add (i * 3 + k)) = some u) →
    ∃ xs : List Stp, xs.length = n ∧ (∀ x ∈ xs, P x) ∧ ∀ i x, xs[i]? = some x → ∀ k u, x.cells[k]? = some u → W.cell? (ad.add (i * 3 + k)) = some u
  | 0, _ => ⟨[], rfl, by simp, by simp⟩
  | n + 1, h => by
    obtain ⟨ts, h1, h2, h3⟩ := steps_row W ad P n (fun i hi => h i (by omega))
    obtain ⟨t, g1, g2⟩ := h n (by omega)
    refine ⟨ts ++ [t], by simp [h1], ?_, ?_⟩
    · intro u hu
      rcases List.mem_append.1 hu with hu | hu
      · exact h2 u hu
      · have : u = t := by simpa using hu
        rw [this]; exact g1
    · intro i u hu
      rcases Nat.lt_or_ge i ts.length with hlt | hge
      · rw [List.getElem?_append_left hlt] at hu
        exact h3 i u hu
      · rw [List.getElem?_append_right hge] at hu
        have hi : i = n := by
          rcases Nat.lt_or_ge (i - ts.length) 1 with h4 | h4
          · omega
          · rw [List.getElem?_eq_none (by simpa using h4)] at hu; cases hu
        subst hi
        rw [h1, Nat.sub_self] at hu
        have : t = u := by simpa using hu
        rw [← this]; exact g2

set_option maxRecDepth 100000 in
theorem open_steps {H : Type} {enc : TypeId × Value → H} {W : World} {v : Value} {d : DataW H} {ps : List MemPlace} {r0 : Reach} {b0 : Nat} (hval : Value.okWide Try.prog W r0 b0 23 v) (hd : DataW.Trod enc Try.prog W 0 (fun _ => true) true 23 v d ps) :
    ∃ (A : Option Addr) (n c : Nat) (xs : List Stp), v = .slice A n c ∧ n ≤ c ∧ c ≤ maxLen ∧ (A = none → c = 0) ∧ (∀ x ∈ xs, x.name.length ≤ maxLen) ∧ Steps W W.heap.size A n xs := by
  obtain ⟨A0, n0, c0, rfl⟩ := okWide_slice Try.underlying23 hval
  obtain ⟨fuel, hf⟩ := hd
  rcases Go.Deep.open_slice Try.underlying23 hf with ⟨hcs, _⟩ | ⟨ad, n, c, m, k, D, Pl, hcs, _, hl, hmx, hm, _, hi⟩
  · have e : Value.slice A0 n0 c0 = .slice none 0 0 := by simpa [Value.cells] using hcs
    exact ⟨none, 0, 0, [], e, Nat.le_refl _, by omega, fun _ => rfl, by simp, by simp [sts], fun h => absurd h (by omega)⟩
  · have hnm : n ≤ m := by rw [hm]; simp; exact hl
    have e : Value.slice A0 n0 c0 = .slice (some ad) n c := by simpa [Value.cells] using hcs
    have hall : ∀ i, i < n → ∃ x : Stp, x.name.length ≤ maxLen ∧ ∀ k u, x.cells[k]? = some u → W.cell? (ad.add (i * 3 + k)) = some u := by
      intro i hin
      obtain ⟨cs, hcell, htr⟩ := hi i (by omega)
      rw [n_step] at hcell
      obtain ⟨_, _, hat⟩ := World.cells?_some hcell
      obtain ⟨x, rfl, hx⟩ := open_scells htr
      refine ⟨x, hx, fun k u hu => ?_⟩
      have hk : k < 3 := (List.getElem?_eq_some_iff.1 hu).1
      have h := hat k (by omega)
      rw [add_of_add] at h
      rw [h]
      exact hu
    obtain ⟨xs, h1, h2, h3⟩ := steps_row W ad _ n hall
    refine ⟨some ad, n, c, xs, e, hl, hmx, fun h => (by cases h), h2, by rw [sts_len, h1], fun hn => ⟨ad, rfl, ?_, fun j u hu => ?_⟩⟩
    · obtain ⟨x, _, h4⟩ := hall 0 hn
      have := cell_lt (h4 0 _ rfl)
      rwa [block_of_add] at this
    · obtain ⟨x, g1, g2⟩ := sts_back xs j u hu
      have := h3 _ x g1 _ u g2
      rwa [show j / 3 * 3 + j % 3 = j by omega] at this

end Go.Proofs.Ytacjiojfjkonkaa
