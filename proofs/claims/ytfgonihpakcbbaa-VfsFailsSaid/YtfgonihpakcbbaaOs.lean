/- Acts in memory; the way down: acts that came in. -/
import Derived.Deep.Slices
import Derived.SliceStrings
import Derived.ChangeMaps5
import Derived.Test.YtfgonihpakcbbaaD
import Derived.Test.YtfgonihpakcbbaaProg
import Derived.Test.YtfgonihpakcbbaaK
import Derived.Test.YtfgonihpakcbbaaMw
import Derived.Test.YtfgonihpakcbbaaS
namespace Go.Proofs.Ytfgonihpakcbbaa
open Go.ChangeShapes Go.WideShapes Go.ChangeAt Go.RowKit Go.Deep

/-- What is done. -/
structure Ac where
  kind : Int
  name : List UInt8
  to : List UInt8
  body : List UInt8
  n : Int
  keep : List Int
/-- .. and where its bytes and numbers lie. -/
structure Aw where
  a : Ac
  A : Option Addr
  k : Nat
  c : Nat
  K : Option Addr
  kn : Nat
  kc : Nat
def iv64 (k : Int) : Value := .int .i64 k
def Aw.cells (x : Aw) : List Value := [.int .i64 x.a.kind, .string (tx x.a.name), .string (tx x.a.to), .slice x.A x.k x.c, .int .i64 x.a.n, .slice x.K x.kn x.kc]
def Aw.val (x : Aw) : Value := .agg #[.int .i64 x.a.kind, .string (tx x.a.name), .string (tx x.a.to), .slice x.A x.k x.c, .int .i64 x.a.n, .slice x.K x.kn x.kc]
def aws (xs : List Aw) : List Value := xs.flatMap Aw.cells
theorem acells_len (x : Aw) : x.cells.length = 6 := rfl
theorem aws_cons (x : Aw) (xs : List Aw) : aws (x :: xs) = x.cells ++ aws xs := rfl
theorem aws_app (xs ys : List Aw) : aws (xs ++ ys) = aws xs ++ aws ys := List.flatMap_append
theorem aws_len : ∀ xs : List Aw, (aws xs).length = xs.length * 6
  | [] => rfl
  | x :: xs => by rw [aws_cons, List.length_append, aws_len xs, acells_len, List.length_cons]; omega
theorem aws_at : ∀ (xs : List Aw) (i : Nat) (x : Aw), xs[i]? = some x → ∀ k u, x.cells[k]? = some u → (aws xs)[i * 6 + k]? = some u
  | [], i, x, h => by simp at h
  | a :: xs, 0, x, h => fun k u hu => by
    obtain rfl : a = x := by simpa using h
    have hk : k < 6 := (List.getElem?_eq_some_iff.1 hu).1
    rw [aws_cons, List.getElem?_append_left (by rw [acells_len]; omega), Nat.zero_mul, Nat.zero_add]
    exact hu
  | a :: xs, i + 1, x, h => fun k u hu => by
    rw [aws_cons, List.getElem?_append_right (by rw [acells_len]; omega), acells_len, show (i + 1) * 6 + k - 6 = i * 6 + k by omega]
    exact aws_at xs i x (by simpa using h) k u hu
theorem aws_back : ∀ (xs : List Aw) (j : Nat) (u : Value), (aws xs)[j]? = some u → ∃ x, xs[j / 6]? = some x ∧ x.cells[j % 6]? = some u
  | [], j, u, h => by simp [aws] at h
  | a :: xs, j, u, h => by
    rw [aws_cons] at h
    rcases Nat.lt_or_ge j 6 with hlt | hge
    · rw [List.getElem?_append_left (by rw [acells_len]; exact hlt)] at h
      exact ⟨a, by rw [show j / 6 = 0 by omega]; rfl, by rw [show j % 6 = j by omega]; exact h⟩
    · rw [List.getElem?_append_right (by rw [acells_len]; exact hge), acells_len] at h
      obtain ⟨x, h1, h2⟩ := aws_back xs (j - 6) u h
      exact ⟨x, by rw [show j / 6 = (j - 6) / 6 + 1 by omega]; simpa using h1, by rw [show j % 6 = (j - 6) % 6 by omega]; exact h2⟩
theorem aws_one (xs : List Aw) : ∀ u ∈ aws xs, u.oneCell' = true := by
  intro u hu
  obtain ⟨x, _, hx⟩ := List.mem_flatMap.1 hu
  simp only [Aw.cells, List.mem_cons, List.not_mem_nil, or_false] at hx
  rcases hx with rfl | rfl | rfl | rfl | rfl | rfl <;> rfl

theorem aadd_plus (a : Addr) (m k : Nat) : a.add (m + (k + 1)) = ⟨(a.add m).block, (a.add m).off + (k + 1), none⟩ := by
  unfold Addr.add
  by_cases h : m = 0
  · subst h; simp
  · simp [h, Nat.add_assoc]

/-- The cells of one act of a row. -/
theorem acts_cells {W : World} {B : Nat} {A : Option Addr} {n : Nat} {xs : List Aw} (h : Reads W B 6 A n (aws xs)) (i : Nat) (x : Aw) (hx : xs[i]? = some x) :
    ∃ ad : Addr, A = some ad ∧ ad.block < B ∧ W.cell? (ad.add (i * 6)) = some (.int .i64 x.a.kind) ∧ W.cell? ⟨(ad.add (i * 6)).block, (ad.add (i * 6)).off + 1, none⟩ = some (.string (tx x.a.name)) ∧ W.cell? ⟨(ad.add (i * 6)).block, (ad.add (i * 6)).off + 2, none⟩ = some (.string (tx x.a.to)) ∧ W.cell? ⟨(ad.add (i * 6)).block, (ad.add (i * 6)).off + 3, none⟩ = some (.slice x.A x.k x.c) ∧ W.cell? ⟨(ad.add (i * 6)).block, (ad.add (i * 6)).off + 4, none⟩ = some (.int .i64 x.a.n) ∧ W.cell? ⟨(ad.add (i * 6)).block, (ad.add (i * 6)).off + 5, none⟩ = some (.slice x.K x.kn x.kc) := by
  have hn : 0 < n := by
    have h1 := h.1
    rw [aws_len] at h1
    have := (List.getElem?_eq_some_iff.1 hx).1
    omega
  obtain ⟨ad, rfl, hb, hc⟩ := h.2 hn
  have hat := fun k u hu => hc _ _ (aws_at xs i x hx k u hu)
  refine ⟨ad, rfl, hb, hat 0 _ rfl, ?_, ?_, ?_, ?_, ?_⟩
  · rw [← aadd_plus ad (i * 6) 0]; exact hat 1 _ rfl
  · rw [← aadd_plus ad (i * 6) 1]; exact hat 2 _ rfl
  · rw [← aadd_plus ad (i * 6) 2]; exact hat 3 _ rfl
  · rw [← aadd_plus ad (i * 6) 3]; exact hat 4 _ rfl
  · rw [← aadd_plus ad (i * 6) 4]; exact hat 5 _ rfl
/-- An act whose bytes and numbers lie in memory, below a bound. -/
structure AIn (w : World) (B : Nat) (x : Aw) : Prop where
  hname : x.a.name.length ≤ maxLen
  hto : x.a.to.length ≤ maxLen
  hn : x.a.n ≤ 9223372036854775807
  hkc : x.k ≤ x.c
  hcm : x.c ≤ maxLen
  hA : x.A = none → x.c = 0
  hbody : Reads w B 1 x.A x.k (x.a.body.map bv)
  hknc : x.kn ≤ x.kc
  hkcm : x.kc ≤ maxLen
  hK : x.K = none → x.kc = 0
  hkeep : Reads w B 1 x.K x.kn (x.a.keep.map iv64)
theorem AIn.more {w : World} {B B' : Nat} {x : Aw} (h : AIn w B x) (hB : B ≤ B') : AIn w B' x := ⟨h.hname, h.hto, h.hn, h.hkc, h.hcm, h.hA, h.hbody.more hB, h.hknc, h.hkcm, h.hK, h.hkeep.more hB⟩
theorem AIn.below {w w' : World} {B : Nat} {x : Aw} (h : AIn w B x) (hb : Below B w w') : AIn w' B x := ⟨h.hname, h.hto, h.hn, h.hkc, h.hcm, h.hA, h.hbody.below hb, h.hknc, h.hkcm, h.hK, h.hkeep.below hb⟩
theorem AIn.blen {w : World} {B : Nat} {x : Aw} (h : AIn w B x) : x.a.body.length = x.k := by have := h.hbody.1; simpa using this
theorem AIn.klen {w : World} {B : Nat} {x : Aw} (h : AIn w B x) : x.a.keep.length = x.kn := by have := h.hkeep.1; simpa using this
/-- Acts that lie in memory, below a bound. -/
def Acts (w : World) (B : Nat) (A : Option Addr) (n : Nat) (xs : List Aw) : Prop := Reads w B 6 A n (aws xs) ∧ ∀ x ∈ xs, AIn w B x
theorem Acts.len {w : World} {B : Nat} {A : Option Addr} {n : Nat} {xs : List Aw} (h : Acts w B A n xs) : xs.length = n := by
  have := h.1.1
  rw [aws_len] at this
  omega
theorem Acts.below {w w' : World} {B : Nat} {A : Option Addr} {n : Nat} {xs : List Aw} (h : Acts w B A n xs) (hb : Below B w w') : Acts w' B A n xs :=
  ⟨h.1.below hb, fun x hx => (h.2 x hx).below hb⟩
theorem Acts.nil (w : World) (B : Nat) (A : Option Addr) : Acts w B A 0 [] := ⟨⟨by simp [aws], fun h => absurd h (by omega)⟩, by simp⟩

theorem acts_row (W : World) (ad : Addr) (P : Aw → Prop) : ∀ n : Nat, (∀ i, i < n → ∃ x : Aw, P x ∧ ∀ k u, x.cells[k]? = some u → W.cell? (ad.add (i * 6 + k)) = some u) →
    ∃ xs : List Aw, xs.length = n ∧ (∀ x ∈ xs, P x) ∧ ∀ i x, xs[i]? = some x → ∀ k u, x.cells[k]? = some u → W.cell? (ad.add (i * 6 + k)) = some u
  | 0, _ => ⟨[], rfl, by simp, by simp⟩
  | n + 1, h => by
    obtain ⟨ts, h1, h2, h3⟩ := acts_row W ad P n (fun i hi => h i (by omega))
    obtain ⟨t, g1, g2⟩ := h n (by omega)
    refine ⟨ts ++ [t], by simp [h1], ?_, ?_⟩
    · intro u hu
      rcases List.mem_append.1 hu with hu | hu
      · exact h2 u hu
      · have : u = t := by simpa using hu
        rw [this]; exact g1
    · intro i u hu
      rcases Nat.lt_or_ge i ts.length with hlt | hge
      · rw [List.getElem?_append_left hlt] at hu
        exact h3 i u hu
      · rw [List.getElem?_append_right hge] at hu
        have hi : i = n := by
          rcases Nat.lt_or_ge (i - ts.length) 1 with h4 | h4
          · omega
          · rw [List.getElem?_eq_none (by simpa using h4)] at hu; cases hu
        subst hi
        rw [h1, Nat.sub_self] at hu
        have : t = u := by simpa using hu
        rw [← this]; exact g2


theorem a_one_at {cs : List Value} {j : Nat} {v : Value} (h : (cs.drop j).take 1 = [v]) : cs[j]? = some v := by
  have := congrArg (fun l : List Value => l[0]?) h
  simpa using this
theorem a_tx_back (s : ByteArray) : tx s.data.toList = s := by
  cases s
  simp [tx]
theorem a_str : Try.prog.cellsOf 9 = 1 := by kernel_rfl
theorem a_int : Try.prog.cellsOf 3 = 1 := by kernel_rfl
theorem a_u8 : Try.prog.cellsOf 5 = 1 := by kernel_rfl
theorem a_bytes : Try.prog.cellsOf 28 = 1 := by kernel_rfl
theorem a_ints : Try.prog.cellsOf 23 = 1 := by kernel_rfl
theorem a_act : Try.prog.cellsOf 30 = 6 := by kernel_rfl

/-- Numbers in a field. -/
theorem open_anums {H : Type} {enc : TypeId × Value → H} {W : World} {fuel : Nat} {cs : List Value} {x : DataW H × List MemPlace} {t e : TypeId} {k : IntKind} (ht : Try.prog.underlying t = some (.slice e)) (he : Try.prog.underlying e = some (.int k)) (hc : Try.prog.cellsOf e = 1) (hf : DataW.trod enc Try.prog W 0 (fun _ => true) true fuel t cs = some x) :
    ∃ (A : Option Addr) (n c : Nat) (zs : List Int), cs = [.slice A n c] ∧ n ≤ c ∧ c ≤ maxLen ∧ (A = none → c = 0) ∧ Reads W W.heap.size 1 A n (zs.map (Value.int k)) ∧ ∀ z ∈ zs, (Lit.int k z).wf = true := by
  rcases open_ints ht he hc hf with ⟨hcs, hx⟩ | ⟨ad, n, c, zs, hcs, _, hl, hm, hz, hx, hcell, hwz⟩
  · exact ⟨none, 0, 0, [], hcs, Nat.le_refl _, by omega, fun _ => rfl, Reads.none_, by simp⟩
  · simp only [if_true] at hz
    refine ⟨some ad, n, c, zs.take n, hcs, hl, hm, fun h => (by cases h), ⟨by simp [hz, Nat.min_eq_left hl], fun hn => ⟨ad, rfl, ?_, fun j u hu => ?_⟩⟩, fun z hz' => hwz z (List.mem_of_mem_take hz')⟩
    · have := cell_lt (hcell 0 (by omega))
      rwa [block_of_add] at this
    · rw [List.getElem?_map, List.getElem?_take] at hu
      split at hu
      · rename_i hj
        have hjl : j < zs.length := by omega
        rw [List.getElem?_eq_getElem hjl] at hu
        have hu' : Value.int k zs[j] = u := by simpa using hu
        rw [hcell j hjl, ← hu']
        simp [List.getD, List.getElem?_eq_getElem hjl]
      · cases hu
theorem trod_struct6 {H : Type} {enc : TypeId × Value → H} {P : Program} {w : World} {base : Nat} {spare : Nat → Bool} {held : Bool} {t : TypeId} {f0 f1 f2 f3 f4 f5 : Field} {fuel : Nat} {cs : List Value} {x : DataW H × List MemPlace} (ht : P.underlying t = some (.struct #[f0, f1, f2, f3, f4, f5])) (h : DataW.trod enc P w base spare held fuel t cs = some x) :
    ∃ y0 y1 y2 y3 y4 y5 n, cs.length = P.cellsOf t ∧ DataW.trod enc P w base spare held n f0.type ((cs.drop f0.offset).take (P.cellsOf f0.type)) = some y0 ∧ DataW.trod enc P w base spare held n f1.type ((cs.drop f1.offset).take (P.cellsOf f1.type)) = some y1 ∧ DataW.trod enc P w base spare held n f2.type ((cs.drop f2.offset).take (P.cellsOf f2.type)) = some y2 ∧ DataW.trod enc P w base spare held n f3.type ((cs.drop f3.offset).take (P.cellsOf f3.type)) = some y3 ∧ DataW.trod enc P w base spare held n f4.type ((cs.drop f4.offset).take (P.cellsOf f4.type)) = some y4 ∧ DataW.trod enc P w base spare held n f5.type ((cs.drop f5.offset).take (P.cellsOf f5.type)) = some y5 := by
  obtain ⟨xs, n, _, rfl, hl, hlen, hf⟩ := DataW.trod_struct ht h
  match xs, hlen with
  | [y0, y1, y2, y3, y4, y5], _ => exact ⟨y0, y1, y2, y3, y4, y5, n, hl, by simpa using hf 0 f0 rfl, by simpa using hf 1 f1 rfl, by simpa using hf 2 f2 rfl, by simpa using hf 3 f3 rfl, by simpa using hf 4 f4 rfl, by simpa using hf 5 f5 rfl⟩
/-- The cells of an act, out of its data. -/
theorem open_acells {H : Type} {enc : TypeId × Value → H} {W : World} {fuel : Nat} {cs : List Value} {x : DataW H × List MemPlace} (hf : DataW.trod enc Try.prog W 0 (fun _ => true) true fuel 30 cs = some x) :
    ∃ x : Aw, cs = x.cells ∧ AIn W W.heap.size x := by
  obtain ⟨y0, y1, y2, y3, y4, y5, n', hl, g0, g1, g2, g3, g4, g5⟩ := trod_struct6 Try.underlying30 hf
  rw [a_act] at hl
  rw [a_int] at g0
  rw [a_str] at g1
  rw [a_str] at g2
  rw [a_bytes] at g3
  rw [a_int] at g4
  rw [a_ints] at g5
  obtain ⟨z0, e0, _⟩ := DataW.trod_int Try.underlying3 g0
  obtain ⟨z1, e1, _, w1⟩ := DataW.trod_string Try.underlying9 g1
  obtain ⟨z2, e2, _, w2⟩ := DataW.trod_string Try.underlying9 g2
  obtain ⟨A, k, c, zs, e3, hk, hc, hA, hr, hw⟩ := open_anums Try.underlying28 Try.underlying5 a_u8 g3
  obtain ⟨z4, e4, _, w4⟩ := DataW.trod_int Try.underlying3 g4
  obtain ⟨K, kn, kc, ks, e5, hkn, hkc, hK, hkr, _⟩ := open_anums Try.underlying23 Try.underlying3 a_int g5
  obtain ⟨bs, hb⟩ := bytes_of_nums zs hw
  rw [hb] at hr
  have hz4 : z4 ≤ 9223372036854775807 := by
    have : -9223372036854775808 ≤ z4 ∧ z4 ≤ 9223372036854775807 := by simpa [Lit.wf, IntKind.min, IntKind.max, IntKind.signed, IntKind.bits] using w4
    exact this.2
  refine ⟨⟨⟨z0, z1.data.toList, z2.data.toList, bs, z4, ks⟩, A, k, c, K, kn, kc⟩, ?_, ⟨by rw [Array.length_toList]; exact w1, by rw [Array.length_toList]; exact w2, hz4, hk, hc, hA, hr, hkn, hkc, hK, hkr⟩⟩
  match cs, hl with
  | [c0, c1, c2, c3, c4, c5], _ =>
    have f0 := a_one_at e0
    have f1 := a_one_at e1
    have f2 := a_one_at e2
    have f3 := a_one_at e3
    have f4 := a_one_at e4
    have f5 := a_one_at e5
    simp at f0 f1 f2 f3 f4 f5
    subst f0 f1 f2 f3 f4 f5
    unfold Aw.cells
    simp only [a_tx_back]

set_option maxRecDepth 100000 in
theorem open_acts {H : Type} {enc : TypeId × Value → H} {W : World} {v : Value} {d : DataW H} {ps : List MemPlace} {r0 : Reach} {b0 : Nat} (hval : Value.okWide Try.prog W r0 b0 22 v) (hd : DataW.Trod enc Try.prog W 0 (fun _ => true) true 22 v d ps) :
    ∃ (A : Option Addr) (n c : Nat) (xs : List Aw), v = .slice A n c ∧ n ≤ c ∧ c ≤ maxLen ∧ (A = none → c = 0) ∧ Acts W W.heap.size A n xs := by
  obtain ⟨A0, n0, c0, rfl⟩ := okWide_slice Try.underlying22 hval
  obtain ⟨fuel, hf⟩ := hd
  rcases Go.Deep.open_slice Try.underlying22 hf with ⟨hcs, _⟩ | ⟨ad, n, c, m, k, D, Pl, hcs, _, hl, hmx, hm, _, hi⟩
  · have e : Value.slice A0 n0 c0 = .slice none 0 0 := by simpa [Value.cells] using hcs
    exact ⟨none, 0, 0, [], e, Nat.le_refl _, by omega, fun _ => rfl, Acts.nil _ _ _⟩
  · have hnm : n ≤ m := by rw [hm]; simp; exact hl
    have e : Value.slice A0 n0 c0 = .slice (some ad) n c := by simpa [Value.cells] using hcs
    have hall : ∀ i, i < n → ∃ x : Aw, AIn W W.heap.size x ∧ ∀ k u, x.cells[k]? = some u → W.cell? (ad.add (i * 6 + k)) = some u := by
      intro i hin
      obtain ⟨cs, hcell, htr⟩ := hi i (by omega)
      rw [a_act] at hcell
      obtain ⟨_, _, hat⟩ := World.cells?_some hcell
      obtain ⟨x, rfl, hx⟩ := open_acells htr
      refine ⟨x, hx, fun k u hu => ?_⟩
      have hk : k < 6 := (List.getElem?_eq_some_iff.1 hu).1
      have h := hat k (by omega)
      rw [add_of_add] at h
      rw [h]
      exact hu
    obtain ⟨xs, h1, h2, h3⟩ := acts_row W ad _ n hall
    refine ⟨some ad, n, c, xs, e, hl, hmx, fun h => (by cases h), ⟨by rw [aws_len, h1], fun hn => ⟨ad, rfl, ?_, fun j u hu => ?_⟩⟩, h2⟩
    · obtain ⟨x, _, h4⟩ := hall 0 hn
      have := cell_lt (h4 0 _ rfl)
      rwa [block_of_add] at this
    · obtain ⟨x, g1, g2⟩ := aws_back xs j u hu
      have := h3 _ x g1 _ u g2
      rwa [show j / 6 * 6 + j % 6 = j by omega] at this
set_option maxRecDepth 100000 in
theorem open_aints {H : Type} {enc : TypeId × Value → H} {W : World} {v : Value} {d : DataW H} {ps : List MemPlace} {r0 : Reach} {b0 : Nat} (hval : Value.okWide Try.prog W r0 b0 23 v) (hd : DataW.Trod enc Try.prog W 0 (fun _ => true) true 23 v d ps) :
    ∃ (A : Option Addr) (n c : Nat) (zs : List Int), v = .slice A n c ∧ n ≤ c ∧ c ≤ maxLen ∧ (A = none → c = 0) ∧ Reads W W.heap.size 1 A n (zs.map iv64) := by
  obtain ⟨A0, n0, c0, rfl⟩ := okWide_slice Try.underlying23 hval
  obtain ⟨fuel, hf⟩ := hd
  obtain ⟨A, n, c, zs, h1, h2, h3, h4, h5, _⟩ := open_anums Try.underlying23 Try.underlying3 a_int hf
  exact ⟨A, n, c, zs, by simpa [Value.cells] using h1, h2, h3, h4, h5⟩

end Go.Proofs.Ytfgonihpakcbbaa
