/- Texts of one proof, one behind the other. -/
import Derived.Test.YtgioknppnfencaaDoorS
import Derived.Test.YtgioknppnfencaaDoorDh
import Derived.WalkKit
import Derived.Outline
import Derived.RegionTactic
import Derived.ChangeAlike
import Derived.Lib.Hide
import Derived.Laws.Bits64b
import Derived.Laws.Externs
import Derived.Laws.Runes
import Derived.Test.YtgioknppnfencaaDoorProg
import Derived.Test.YtgioknppnfencaaDoorK2
import Derived.Test.YtgioknppnfencaaDoorH
import Derived.Laws.IdiomStrings
import Derived.Lib.AppendStr
import Derived.Test.YtgioknppnfencaaDoorMw
import Derived.Laws.BitsLemmas
import Derived.Lib.ConvBytes
import Derived.OrdersHeld
import Derived.Lib.Split
import Derived.Lib.SplitLaws
import Derived.Lib.CountLaws
import Derived.Lib.IndexBytes
import Derived.Lib.Join
import Derived.Laws.Strings2
import Derived.Test.YtgioknppnfencaaDoorSh
import Derived.Lib.AppendIntMem
import Derived.Test.YtgioknppnfencaaDoorDi
import Derived.Test.YtgioknppnfencaaDoorPa
import Derived.Test.YtgioknppnfencaaDoorRs
import Derived.Test.YtgioknppnfencaaDoorNb
import Derived.Test.YtgioknppnfencaaDoorRl
import Derived.Test.YtgioknppnfencaaDoorRo
import Derived.Deep.QuietTactic
import Derived.BigQuiet
import Derived.Test.YtgioknppnfencaaDoorRu
import Derived.Shelf.Strings.Builder1
import Derived.Lib.UnsafeStr
import Derived.Test.YtgioknppnfencaaDoorRn0

/- The mathematics of words. -/
namespace Go.Proofs.YtgioknppnfencaaDoor

/-- Does a byte stand for itself? -/
def okb (b : UInt8) : Bool := decide (33 ≤ b.toNat ∧ b.toNat ≤ 126 ∧ b.toNat ≠ 92)

/-- The signs of a byte. -/
def sgn (all : Bool) (b : UInt8) : List UInt8 := if all = false ∧ okb b = true then [b] else [92, dig (b.toNat / 16), dig (b.toNat % 16)]

/-- A text's word. -/
def eput (s : List UInt8) : List UInt8 := if s = [] then [45] else s.flatMap (sgn (decide (s = [45])))

/-- What the first signs stand for, and how many these are. -/
def ahd (c : UInt8) (l : List UInt8) : UInt8 × Nat :=
  match l with
  | a :: b :: _ => if c = 92 then (match hval a, hval b with | some h, some k => (UInt8.ofNat (16 * h + k), 3) | _, _ => (c, 1)) else (c, 1)
  | _ => (c, 1)

theorem ahd_two (c : UInt8) (l : List UInt8) : (ahd c l).2 = 1 ∨ ((ahd c l).2 = 3 ∧ 2 ≤ l.length) := by
  unfold ahd
  split
  · split
    · split
      · right; simp
      · left; rfl
    · left; rfl
  · left; rfl

/-- What is read of signs. -/
def erd : Nat → List UInt8 → List UInt8
  | 0, _ => []
  | _ + 1, [] => []
  | f + 1, c :: l => (ahd c l).1 :: erd f ((c :: l).drop (ahd c l).2)

def eread (w : List UInt8) : List UInt8 := if w = [45] then [] else erd w.length w

theorem erd_more : ∀ (f g : Nat) (w : List UInt8), w.length ≤ f → f ≤ g → erd g w = erd f w := by
  intro f
  induction f with
  | zero =>
    intro g w h1 _
    have : w = [] := List.eq_nil_of_length_eq_zero (by omega)
    subst this
    cases g <;> rfl
  | succ f ih =>
    intro g w h1 h2
    cases g with
    | zero => omega
    | succ g =>
      cases w with
      | nil => rfl
      | cons c l =>
        have h3 : ((c :: l).drop (ahd c l).2).length ≤ f := by
          have := ahd_two c l
          simp only [List.length_drop, List.length_cons] at *
          omega
        show _ :: _ = _ :: _
        rw [ih g _ h3 (by omega)]

/-- What is read behind a place. -/
def rest (w : List UInt8) : List UInt8 := erd w.length w
theorem rest_nil : rest [] = [] := rfl
theorem rest_cons (c : UInt8) (l : List UInt8) : rest (c :: l) = (ahd c l).1 :: rest ((c :: l).drop (ahd c l).2) := by
  unfold rest
  show (ahd c l).1 :: erd l.length ((c :: l).drop (ahd c l).2) = _
  have := ahd_two c l
  rw [erd_more ((c :: l).drop (ahd c l).2).length l.length _ (Nat.le_refl _) (by simp only [List.length_drop, List.length_cons]; omega)]

theorem sgn_self {b : UInt8} (h : okb b = true) : sgn false b = [b] := by simp [sgn, h]
theorem sgn_three {a : Bool} {b : UInt8} (h : ¬ (a = false ∧ okb b = true)) : sgn a b = [92, dig (b.toNat / 16), dig (b.toNat % 16)] := by rw [sgn, if_neg h]

theorem ahd_three (b : UInt8) (l : List UInt8) : ahd 92 (dig (b.toNat / 16) :: dig (b.toNat % 16) :: l) = (b, 3) := by
  have h1 : hval (dig (b.toNat / 16)) = some (b.toNat / 16) := hval_dig ⟨b.toNat / 16, by have := b.toNat_lt; omega⟩
  have h2 : hval (dig (b.toNat % 16)) = some (b.toNat % 16) := hval_dig ⟨b.toNat % 16, by omega⟩
  have h3 : UInt8.ofNat (16 * (b.toNat / 16) + b.toNat % 16) = b := by
    rw [show 16 * (b.toNat / 16) + b.toNat % 16 = b.toNat by omega]; simp
  simp only [ahd, h1, h2, if_true, h3]

theorem ahd_self {b : UInt8} (h : okb b = true) (l : List UInt8) : ahd b l = (b, 1) := by
  have h1 : b ≠ 92 := by
    rintro rfl
    simp [okb] at h
  unfold ahd
  split
  · rw [if_neg h1]
  · rfl

theorem rest_sgn (a : Bool) (b : UInt8) (l : List UInt8) : rest (sgn a b ++ l) = b :: rest l := by
  by_cases h : a = false ∧ okb b = true
  · rw [h.1, sgn_self h.2]
    show rest (b :: l) = _
    rw [rest_cons, ahd_self h.2]; rfl
  · rw [sgn_three h]
    show rest (92 :: dig (b.toNat / 16) :: dig (b.toNat % 16) :: l) = _
    rw [rest_cons, ahd_three]; rfl

theorem rest_flat (a : Bool) (s : List UInt8) : rest (s.flatMap (sgn a)) = s := by
  induction s with
  | nil => rfl
  | cons b s ih => rw [List.flatMap_cons, rest_sgn, ih]

theorem sgn_ne (a : Bool) (b : UInt8) : sgn a b ≠ [] := by
  by_cases h : a = false ∧ okb b = true
  · rw [h.1, sgn_self h.2]; simp
  · rw [sgn_three h]; simp

theorem flat_one {a : Bool} {s : List UInt8} {c : UInt8} (h : s.flatMap (sgn a) = [c]) : s = [c] ∧ a = false := by
  cases s with
  | nil => simp at h
  | cons b s =>
    rw [List.flatMap_cons] at h
    by_cases h1 : a = false ∧ okb b = true
    · rw [h1.1, sgn_self h1.2] at h
      have h2 : b = c ∧ s.flatMap (sgn false) = [] := by simpa using h
      cases s with
      | nil => exact ⟨by rw [h2.1], h1.1⟩
      | cons x s => exact absurd (List.flatMap_eq_nil_iff.1 h2.2 x (by simp)) (sgn_ne false x)
    · rw [sgn_three h1] at h
      simp at h

theorem eput_ne (s : List UInt8) : eput s ≠ [] := by
  unfold eput
  split
  · simp
  · cases s with
    | nil => contradiction
    | cons b s => rw [List.flatMap_cons]; intro h; exact sgn_ne _ _ (List.append_eq_nil_iff.1 h).1

theorem eput_hyphen {s : List UInt8} (h : s ≠ []) : eput s ≠ [45] := by
  unfold eput
  rw [if_neg h]
  intro h1
  have h2 := flat_one h1
  rw [h2.1] at h2
  simp at h2

theorem eread_eput (s : List UInt8) : eread (eput s) = s := by
  by_cases h : s = []
  · subst h; rfl
  · unfold eread
    rw [if_neg (eput_hyphen h)]
    unfold eput
    rw [if_neg h]
    exact rest_flat _ s

/-- What a word is read as. -/
def eget (w : List UInt8) : List UInt8 × Bool := if eput (eread w) = w then (eread w, true) else ([], false)

theorem eget_eput (s : List UInt8) : eget (eput s) = (s, true) := by
  unfold eget
  rw [eread_eput, if_pos rfl]

theorem eget_back {w s : List UInt8} (h : eget w = (s, true)) : eput s = w := by
  unfold eget at h
  split at h
  · rename_i h1
    have h2 : eread w = s := by simpa using h
    rw [← h2]; exact h1
  · simp at h

theorem erd_len : ∀ (f : Nat) (w : List UInt8), (erd f w).length ≤ w.length := by
  intro f
  induction f with
  | zero => intro w; simp [erd]
  | succ f ih =>
    intro w
    cases w with
    | nil => simp [erd]
    | cons c l =>
      have h1 := ih ((c :: l).drop (ahd c l).2)
      have h2 := ahd_two c l
      show ((ahd c l).1 :: erd f ((c :: l).drop (ahd c l).2)).length ≤ _
      simp only [List.length_cons, List.length_drop] at *
      omega
theorem eread_len (w : List UInt8) : (eread w).length ≤ w.length := by
  unfold eread
  split
  · simp
  · exact erd_len _ _

/-- No blank, no line feed. -/
theorem dig_ge (m : Fin 16) : 48 ≤ (dig m.val).toNat ∧ (dig m.val).toNat ≤ 102 := by revert m; decide
theorem sgn_mem {a : Bool} {b x : UInt8} (h : x ∈ sgn a b) : 33 ≤ x.toNat ∧ x.toNat ≤ 126 := by
  by_cases h1 : a = false ∧ okb b = true
  · rw [h1.1, sgn_self h1.2] at h
    have h2 : x = b := by simpa using h
    subst h2
    have := h1.2
    simp only [okb, decide_eq_true_eq] at this
    omega
  · rw [sgn_three h1] at h
    have h3 := dig_ge ⟨b.toNat / 16, by have := b.toNat_lt; omega⟩
    have h4 := dig_ge ⟨b.toNat % 16, by omega⟩
    simp only at h3 h4
    rcases (by simpa using h : x = 92 ∨ x = dig (b.toNat / 16) ∨ x = dig (b.toNat % 16)) with rfl | rfl | rfl
    · decide
    · omega
    · omega
theorem eput_mem {s : List UInt8} {x : UInt8} (h : x ∈ eput s) : 33 ≤ x.toNat ∧ x.toNat ≤ 126 := by
  unfold eput at h
  split at h
  · have : x = 45 := by simpa using h
    subst this
    decide
  · obtain ⟨b, _, hb⟩ := List.mem_flatMap.1 h
    exact sgn_mem hb

theorem sgn_len (a : Bool) (b : UInt8) : 1 ≤ (sgn a b).length ∧ (sgn a b).length ≤ 3 := by
  by_cases h : a = false ∧ okb b = true
  · rw [h.1, sgn_self h.2]; simp
  · rw [sgn_three h]; simp
theorem flat_len3 (a : Bool) (s : List UInt8) : (s.flatMap (sgn a)).length ≤ 3 * s.length := by
  induction s with
  | nil => simp
  | cons b s ih => have := sgn_len a b; simp only [List.flatMap_cons, List.length_append, List.length_cons]; omega
theorem eput_len (s : List UInt8) : (eput s).length ≤ 3 * s.length + 1 := by
  unfold eput
  split
  · simp
  · have := flat_len3 (decide (s = [45])) s; omega

/-- The signs of a byte at the head of a row: no others. -/
theorem sgn_apart {a : Bool} {b c : UInt8} {l m : List UInt8} (h : sgn a b ++ l = sgn a c ++ m) : b = c ∧ l = m := by
  have h1 := congrArg rest h
  rw [rest_sgn, rest_sgn] at h1
  have h2 : b = c := (List.cons.inj h1).1
  subst h2
  exact ⟨rfl, List.append_cancel_left h⟩

/-- Whether the document's Get takes no byte for itself. -/
def allw (w : List UInt8) : Bool := decide (w = [92, 50, 100])

theorem eput_all {s : List UInt8} (h : s ≠ []) : decide (s = [45]) = allw (eput s) := by
  unfold allw
  by_cases h1 : s = [45]
  · subst h1; decide
  · rw [decide_eq_false h1]
    symm
    refine decide_eq_false ?_
    intro h2
    unfold eput at h2
    rw [if_neg h, decide_eq_false h1] at h2
    have h3 := congrArg rest h2
    rw [rest_flat] at h3
    exact h1 (h3.trans (by decide))

/-- All of it was read sign by sign. -/
theorem eget_yes {w acc : List UInt8} (h45 : w ≠ [45]) (hne : acc ≠ []) (h : w = acc.flatMap (sgn (allw w))) : eget w = (acc, true) := by
  have h1 : decide (acc = [45]) = allw w := by
    by_cases h2 : allw w = true
    · have h3 : w = [92, 50, 100] := of_decide_eq_true h2
      have h4 := congrArg rest h
      rw [rest_flat] at h4
      have h5 : acc = [45] := by rw [← h4, h3]; decide
      rw [h2, h5]; decide
    · have h2' : allw w = false := by simpa using h2
      rw [h2']
      refine decide_eq_false ?_
      rintro rfl
      rw [h2'] at h
      exact h45 (h.trans (by decide))
  have h2 : eput acc = w := by
    unfold eput
    rw [if_neg hne, h1, ← h]
  rw [← h2]
  exact eget_eput acc

/-- At some place no signs stand, of whatever byte. -/
theorem eget_no {w acc l : List UInt8} (h45 : w ≠ [45]) (h : w = acc.flatMap (sgn (allw w)) ++ l) (hl : l ≠ []) (hno : ∀ c m, l ≠ sgn (allw w) c ++ m) : eget w = ([], false) := by
  unfold eget
  refine if_neg ?_
  intro h1
  obtain ⟨s, hs⟩ : ∃ s, s = eread w := ⟨_, rfl⟩
  rw [← hs] at h1
  have hne : s ≠ [] := by
    rintro rfl
    exact h45 h1.symm
  have hall := eput_all hne
  rw [h1] at hall
  have h2 : w = s.flatMap (sgn (allw w)) := by
    rw [← hall]
    unfold eput at h1
    rw [if_neg hne] at h1
    exact h1.symm
  have h3 : ∀ (acc s : List UInt8), acc.flatMap (sgn (allw w)) ++ l = s.flatMap (sgn (allw w)) → False := by
    intro acc
    induction acc with
    | nil =>
      intro s hs
      cases s with
      | nil => exact hl (by simpa using hs)
      | cons c s => exact hno c _ (by simpa using hs)
    | cons b acc ih =>
      intro s hs
      cases s with
      | nil =>
        rw [List.flatMap_cons] at hs
        have := sgn_len (allw w) b
        have h4 := congrArg List.length hs
        simp only [List.length_append, List.flatMap_nil, List.length_nil] at h4
        omega
      | cons c s =>
        rw [List.flatMap_cons, List.flatMap_cons, List.append_assoc] at hs
        exact ih s (sgn_apart hs).2
  exact h3 acc s (h.symm.trans h2)

theorem eget_nil : eget [] = ([], false) := by decide
theorem eget_hyphen : eget [45] = ([], true) := by decide

end Go.Proofs.YtgioknppnfencaaDoor

/- The small walks of words: which signs stand for themselves; a sign; IndexByte. -/
namespace Go.Proofs.YtgioknppnfencaaDoor
open Go.RowKit

/-- The value of the function that tells which bytes stand for themselves. -/
def itv (all : Bool) : Value := .func (.func (if all then 64 else 65)) #[] #[]

theorem itself_h (w : World) : Calls Tryd.prog 51 #[.string { data := #[45] }] w fun e w' => e = .returned (.func (.func 64) #[] #[]) ∧ w = w' := by
  go_enter Tryd.func51, Tryd.ntmps51
  go_wp2
  go_ret
  exact ⟨rfl, rfl⟩

theorem eq_bytes (l k : List UInt8) : ((tx l).toList == k) = decide (l = k) := by rw [tx_toList, Bool.eq_iff_iff]; simp

theorem itself_o (l : List UInt8) (hs : l ≠ [45]) (w : World) : Calls Tryd.prog 51 #[.string (tx l)] w fun e w' => e = .returned (.func (.func 65) #[] #[]) ∧ w = w' := by
  have h1 : ((tx l).toList == [45]) = false := by rw [eq_bytes, decide_eq_false hs]
  go_enter Tryd.func51, Tryd.ntmps51
  go_wp2
  go_ret
  exact ⟨rfl, rfl⟩

theorem self1_any (b : UInt8) (w : World) : Calls Tryd.prog 64 #[.int .u8 (b.toNat : Int)] w fun e w' => e = .returned (.bool false) ∧ w = w' := by
  go_enter Tryd.func64, Tryd.ntmps64
  go_wp2
  go_ret
  exact ⟨rfl, rfl⟩

theorem self2_any (b : UInt8) (w : World) : Calls Tryd.prog 65 #[.int .u8 (b.toNat : Int)] w fun e w' => e = .returned (.bool (okb b)) ∧ w = w' := by
  have hb := b.toNat_lt
  unfold okb
  generalize b.toNat = n at *
  by_cases h : 33 ≤ n ∧ n ≤ 126 ∧ n ≠ 92
  · rw [decide_eq_true h]
    obtain ⟨h1, h2, h3⟩ := h
    have k3 : ((n : Int) == 92) = false := by simp; omega
    have k4 : ((n : Int) != 92) = true := by simp; omega
    go_enter Tryd.func65, Tryd.ntmps65
    go_wp2
    go_ret
    exact ⟨rfl, rfl⟩
  · rw [decide_eq_false h]
    by_cases h1 : 33 ≤ n
    · by_cases h2 : n ≤ 126
      · obtain rfl : n = 92 := by omega
        go_enter Tryd.func65, Tryd.ntmps65
        go_wp2
        go_ret
        exact ⟨rfl, rfl⟩
      · go_enter Tryd.func65, Tryd.ntmps65
        go_wp2
        go_ret
        exact ⟨rfl, rfl⟩
    · go_enter Tryd.func65, Tryd.ntmps65
      go_wp2
      go_ret
      exact ⟨rfl, rfl⟩

theorem digs_at (m : Nat) (hm : m < 16) (hp : m < ({ data := #[48, 49, 50, 51, 52, 53, 54, 55, 56, 57, 97, 98, 99, 100, 101, 102] } : ByteArray).size) :
    Value.int .u8 (((({ data := #[48, 49, 50, 51, 52, 53, 54, 55, 56, 57, 97, 98, 99, 100, 101, 102] } : ByteArray)[m]'hp).toNat : Nat) : Int) = bv (dig m) := by
  have h : ∀ k : Fin 16, ((({ data := #[48, 49, 50, 51, 52, 53, 54, 55, 56, 57, 97, 98, 99, 100, 101, 102] } : ByteArray)[k.val]'(by have := k.isLt; exact this)).toNat : Nat) = (dig k.val).toNat := by decide
  exact congrArg (fun x : Nat => Value.int .u8 (x : Int)) (h ⟨m, hm⟩)

theorem digs_ix (z : Int) (m : Nat) (hz : z = (m : Int)) (hm : m < 16) (v : World) (B : Result Value) (hp : ∀ _ : 0 ≤ z ∧ z < 16, z.toNat < ({ data := #[48, 49, 50, 51, 52, 53, 54, 55, 56, 57, 97, 98, 99, 100, 101, 102] } : ByteArray).size) :
    ((if h : 0 ≤ z ∧ z < 16 then Result.ok (Value.int .u8 (((({ data := #[48, 49, 50, 51, 52, 53, 54, 55, 56, 57, 97, 98, 99, 100, 101, 102] } : ByteArray)[z.toNat]'(hp h)).toNat : Nat) : Int)) v else B).andThen fun a w' => Result.ok (Next.value a) w') = Result.ok (Next.value (bv (dig m))) v := by
  subst hz
  rw [dif_pos ⟨by omega, by omega⟩]
  have h1 := digs_at m hm (by simp [ByteArray.size]; omega)
  simp only [Int.toNat_natCast, h1, Result.andThen]

theorem reads_three (W : World) (e : TypeId) (x y z : UInt8) : Reads (W.alloc (.cells #[bv x, bv y, bv z] e)) (W.heap.size + 1) 1 (some ⟨W.heap.size, 0, none⟩) 3 ([x, y, z].map bv) :=
  ⟨rfl, fun _ => ⟨_, rfl, by simp, fun j u hu => by
    match j with
    | 0 =>
      have hu' : bv x = u := by simpa using hu
      subst hu'
      simp [Addr.add]
    | 1 =>
      have hu' : bv y = u := by simpa using hu
      subst hu'
      simp [Addr.add]
    | 2 =>
      have hu' : bv z = u := by simpa using hu
      subst hu'
      simp [Addr.add]
    | j + 3 => simp at hu⟩⟩

end Go.Proofs.YtgioknppnfencaaDoor

/- escape.Put: the signs of a text are put behind each other. -/
namespace Go.Proofs.YtgioknppnfencaaDoor
open Go.RowKit

theorem einfo : (Tryd.prog.info? 5).map (fun i => (i.zero, i.size, i.bytes)) = some (some (.int .u8 0), 1, 1) := by kernel_rfl

/-- A variable in block bx holds bytes of the call's own; block G is another one. -/
def Bx (w : World) (base bx G : Nat) (acc : List UInt8) : Prop :=
  base ≤ bx ∧ ∃ v, w.heap[bx]? = some (.cells #[v] 39 (0, 0)) ∧ w.ownsRow base 5 1 v acc.length (acc.map bv) ∧ ∀ g, v.ownBlock = some g → g ≠ G

theorem Bx.below {w w' : World} {base bx G : Nat} {acc : List UInt8} (h : Bx w base bx G acc) (hb : Below w.heap.size w w') : Bx w' base bx G acc := by
  obtain ⟨h0, v, h1, h2, h3⟩ := h
  exact ⟨h0, v, (hb.block bx (Array.getElem?_eq_some_iff.1 h1).1).trans h1, own_below h2 hb, h3⟩
theorem Bx.lt {w : World} {base bx G : Nat} {acc : List UInt8} (h : Bx w base bx G acc) : bx < w.heap.size := by
  obtain ⟨h0, v, h1, h2, h3⟩ := h
  exact (Array.getElem?_eq_some_iff.1 h1).1

set_option maxRecDepth 100000 in
set_option maxHeartbeats 400000 in
theorem put1_any (base bx G : Nat) (acc xs : List UInt8) (A : Option Addr) (n c : Nat) (hn : n ≤ 10) (hacc : acc.length ≤ 1000000) (hG : G ≠ bx) (w : World) (hGl : G < w.heap.size) (hB : Bx w base bx G acc) (hA : A = none → c = 0) (hr : Reads w w.heap.size 1 A n (xs.map bv)) :
    Calls Tryd.prog 52 #[.slice A n c, .pointer (some ⟨bx, 0, none⟩)] w fun e w' => e = .returned (.tuple #[]) ∧ Bx w' base bx G (acc ++ xs) ∧ Turn (fun k => base ≤ k ∧ k ≠ G) w w' := by
  obtain ⟨i0, hi, hz0, hz1, hz2⟩ := info_parts einfo
  have hln : xs.length = n := by have := hr.1; simpa using this
  obtain ⟨h0, v, h1, h2, h3⟩ := hB
  have q0 := at_cell (i := 0) h1 rfl
  have hlt := (Array.getElem?_eq_some_iff.1 h1).1
  have hne : v.ownBlock ≠ some bx := own_cells h2 h1 (by decide)
  have H1 := Lib.hid h1
  have H2 := Lib.hid h2
  have H3 := Lib.hid h3
  have HNE := Lib.hid hne
  have HLN := Lib.hid hln
  have HR := Lib.hid hr
  have hbase : base ≤ w.heap.size := by omega
  clear h1 h2 h3 hne hln hr
  go_enter Tryd.func52, Tryd.ntmps52
  go_wp2_with (at_builtin; refine wpList_append_told _ rfl (.tmp 3) (.tmp 4) 39 rfl base 5 i0 _ 1 1 Tryd.underlying39 hi hz0 hz1 hz2 rfl (by decide) _ acc.length _ rfl H2.out A n c w.heap.size (xs.map bv) rfl hA HR.out (bv_one xs) (by unfold maxLen; omega) (by omega) hbase ?_; intro v1 w1 ho1 hg1 hv1; obtain ⟨A1, c1, rfl, _⟩ := own_slice ho1; have hb1 : w1.heap[bx]? = some (.cells #[v] 39 (0, 0)) := (hg1.block bx hlt (fun e => HNE.out e.symm)).trans H1.out; have p0 := at_cell (i := 0) hb1 rfl; have y0 := at_frozen (i := 0) hb1; have HO1 := Lib.hid ho1; have HG1 : Hid (w.grownBy w1 v.ownBlock) := hg1; have HV1 : Hid ((Value.slice A1 (acc.length + n) c1).ownBlock = v.ownBlock ∨ (Value.slice A1 (acc.length + n) c1).ownBlock = some w.heap.size) := hv1; have HB1 := Lib.hid hb1; clear ho1 hg1 hv1 hb1)
  go_end0
  have hne1 := own_cells HO1.out HB1.out (by decide)
  refine ⟨rfl, ⟨h0, _, set_same HB1.out 0 _, ?_, fun g hg e => ?_⟩, ?_⟩
  · have := own_heap HO1.out (w' := w1.setCell ⟨bx, 0, none⟩ (.slice A1 (acc.length + n) c1)) (fun g hg => Below.heap_setCell _ _ _ g (fun e => hne1 (by rw [hg]; exact congrArg some e)))
    rw [List.map_append, List.length_append, HLN.out]
    exact this
  · subst e
    rcases HV1.out with h | h
    · exact H3.out g (h.symm.trans hg) rfl
    · rw [h] at hg
      have : w.heap.size = g := Option.some.inj hg
      omega
  · refine ((Turn.refl _ w).grown HG1.out (fun i e hi => ?_)).setCell bx 0 _ ⟨h0, fun e => hG e.symm⟩
    exact ⟨own_block H2.out i e, H3.out i e⟩

end Go.Proofs.YtgioknppnfencaaDoor

/- escape.write, escape.Put. -/
namespace Go.Proofs.YtgioknppnfencaaDoor
open Go.RowKit

/-- What a conversion of a text to bytes leaves. -/
theorem bytes_world (w : World) (l : List UInt8) : ∃ (X : World) (cap : Nat), (convert 9 39 (.string (tx l))).run Tryd.prog w = .ok (.slice (some ⟨w.heap.size, 0, none⟩) l.length cap) X ∧ Below w.heap.size w X ∧ X.heap.size = w.heap.size + 1 ∧ ∀ (k : Nat) (b : UInt8), l[k]? = some b → X.cell? ⟨w.heap.size, k, none⟩ = some (bv b) := by
  have hcv := Lib.run_convert_string_bytes (P := Tryd.prog) w 9 39 5 (tx l) Tryd.underlying9 Tryd.underlying39 Tryd.underlying5
  rw [tx_size] at hcv
  refine ⟨_, _, hcv, ⟨rfl, rfl, rfl, by rw [Lib.bytesWorld_size]; omega, fun k hk => Lib.bytesWorld_at_old w _ _ k hk⟩, Lib.bytesWorld_size _ _ _, fun k b hk => ?_⟩
  have hlt : k < l.length := (List.getElem?_eq_some_iff.1 hk).1
  have hn := Lib.bytesWorld_at_new w 5 (tx l)
  have hc : (Lib.bytesCells w 5 (tx l))[k]? = some (bv b) := by
    unfold Lib.bytesCells
    rw [Array.getElem?_append_left (by simp [tx]; exact hlt)]
    have h2 : l[k] = b := by rw [List.getElem?_eq_getElem hlt] at hk; exact Option.some.inj hk
    simp [tx, hlt, h2, bv]
  simp [World.cell?, hn, hc]

/-- At the head of a round of write. -/
def WRel (all : Bool) (l acc : List UInt8) (base bx G : Nat) (X : World) (idx : Value) (wr : World) : Prop :=
  ∃ i : Nat, i ≤ l.length ∧ idx = .int .i64 (i : Int) ∧ Bx wr base bx G (acc ++ (l.take i).flatMap (sgn all)) ∧ Turn (fun k => base ≤ k ∧ k ≠ G) X wr

theorem flat_snoc {all : Bool} {l : List UInt8} {i : Nat} {b : UInt8} (h : l[i]? = some b) : (l.take (i + 1)).flatMap (sgn all) = (l.take i).flatMap (sgn all) ++ sgn all b := by
  rw [List.take_add_one, h, List.flatMap_append]; simp

set_option maxRecDepth 100000 in
set_option maxHeartbeats 1000000 in
theorem write_any0 (all : Bool) (fn : Nat) (hfn : fn = if all then 64 else 65) (l acc : List UInt8) (hl : l.length ≤ 1000) (hacc : acc.length ≤ 1000) (base bx : Nat) (w : World) (hB : Bx w base bx w.heap.size acc) :
    Calls Tryd.prog 50 #[.string (tx l), .func (.func fn) #[] #[], .func (.func 52) #[] #[.pointer (some ⟨bx, 0, none⟩)]] w fun e w' => e = .returned (.tuple #[]) ∧ Bx w' base bx w.heap.size (acc ++ l.flatMap (sgn all)) ∧ Below base w w' := by
  obtain ⟨X, cap, hcv, hbX, hXs, hcell⟩ := bytes_world w l
  have hbx := hB.lt
  have hbase := hB.1
  have HBX := Lib.hid (hB.below hbX)
  obtain ⟨n, hn⟩ : ∃ n, n = l.length := ⟨_, rfl⟩
  rw [← hn] at hcv hl
  have HN := Lib.hid hn
  have HXS := Lib.hid hXs
  have HBL := Lib.hid hbX
  have HC := Lib.hid hcell
  have HFN := Lib.hid hfn
  clear hfn hB hn hXs hbX hcell
  go_enter Tryd.func50, Tryd.ntmps50
  go_wp2
  clear hcv
  go_loopw [11] (fun idx wr => WRel all l acc base bx w.heap.size X idx wr) (fun idx wr => n - (intOf idx).toNat)
  case atStart => exact ⟨0, by omega, rfl, by simpa using HBX.out, Turn.refl _ _⟩
  case round =>
    obtain ⟨i, hi, rfl, hbx2, htu⟩ := hrel
    rw [← HN.out] at hi
    by_cases hlt : i < n
    · obtain ⟨b, hb⟩ : ∃ b, l[i]? = some b := ⟨_, List.getElem?_eq_getElem (by rw [← HN.out]; exact hlt)⟩
      have hsz : w.heap.size < wr.heap.size := by have h1 := htu.2.2.2.1; rw [HXS.out] at h1; omega
      have k0 : wr.cell? ⟨w.heap.size, i, none⟩ = some (bv b) := by
        have h1 := htu.2.2.2.2 w.heap.size (by rw [HXS.out]; omega) (fun h => h.2 rfl)
        have h2 := HC.out i b hb
        unfold World.cell? at h2 ⊢
        rw [h1]
        exact h2
      have HS := Lib.hid (flat_snoc (all := all) hb)
      have hfl : ((l.take i).flatMap (sgn all)).length ≤ 3000 := by
        have h1 := flat_len3 all (l.take i)
        rw [List.length_take] at h1
        omega
      have HPUT : Hid (∀ (W : World) (xs : List UInt8) (A : Option Addr) (m c : Nat), m ≤ 10 → Below wr.heap.size wr W → (A = none → c = 0) → Reads W W.heap.size 1 A m (xs.map bv) → sgn all b = xs →
          Calls Tryd.prog 52 #[.slice A m c, .pointer (some ⟨bx, 0, none⟩)] W fun e w' => e = .returned (.tuple #[]) ∧ Bx w' base bx w.heap.size (acc ++ (l.take (i + 1)).flatMap (sgn all)) ∧ Turn (fun k => base ≤ k ∧ k ≠ w.heap.size) X w') := fun W xs A m c hm hb hA hr hx => by
        refine (put1_any base bx w.heap.size _ xs A m c hm (by rw [List.length_append]; omega) (by omega) W (by have := hb.size; omega) (hbx2.below hb) hA hr).mono fun e w' h => ⟨h.1, ?_, ?_⟩
        · rw [HS.out, hx, ← List.append_assoc]; exact h.2.1
        · exact (htu.trans (Turn.of_below hb) (fun _ _ h => h)).trans h.2.2 (fun _ _ h => h)
      have hi0 : (0 : Int) ≤ (i : Int) := by omega
      have hi1 : (i : Int) < (n : Int) := by omega
      unfold bv at k0
      have HK := Lib.hid hb
      clear hb hbx2 htu HC hfl HS HBX
      have hb8 := b.toNat_lt
      by_cases h : all = false ∧ okb b = true
      · obtain ⟨rfl, hok⟩ := h
        have hfn := HFN.out
        rw [if_neg (by decide)] at hfn
        subst hfn
        have hself := fun W => self2_any b W
        rw [hok] at hself
        have HSELF := Lib.hid hself
        have HPU := Lib.hid (HPUT.out (wr.alloc (.cells #[bv b] 5)) [b] (some ⟨wr.heap.size, 0, none⟩) 1 1 (by omega) ((Below.refl _ _).alloc (Nat.le_refl _) _) (fun h => by cases h) (by have h1 := reads_one wr 5 b; rw [show (wr.alloc (.cells #[bv b] 5)).heap.size = wr.heap.size + 1 by simp]; exact h1) (sgn_self hok))
        unfold bv at HPU
        clear hself HPUT hok
        go_wp2_with (first
          | (go_at_call 65; refine (HSELF.out _).mono ?_; rintro e w3 ⟨rfl, rfl⟩)
          | (go_at_call 52; refine HPU.out.mono ?_; rintro e w4 ⟨rfl, hb4, ht4⟩; have HB4 := Lib.hid hb4; have HT4 := Lib.hid ht4; clear hb4 ht4))
        exact ⟨⟨i + 1, by rw [← HN.out]; omega, by go_num, HB4.out, HT4.out⟩, by simp [intOf]; omega⟩
      · have HX := HPUT.out
        rw [sgn_three h] at HX
        have HSELF : Hid (∀ W, Calls Tryd.prog fn #[.int .u8 (b.toNat : Int)] W fun e w' => e = .returned (.bool false) ∧ W = w') := fun W => by
          have hfn := HFN.out
          cases all with
          | true => rw [if_pos rfl] at hfn; subst hfn; exact self1_any b W
          | false =>
            rw [if_neg (by decide)] at hfn
            subst hfn
            have := self2_any b W
            rwa [show okb b = false from by simpa using h] at this
        have H16 := fun W => HX W [92, dig (b.toNat / 16), dig (b.toNat % 16)] (some ⟨wr.heap.size, 0, none⟩) 3 3 (by omega)
        clear HPUT HX h
        have h12 : fn = 64 ∨ fn = 65 := by
          have hfn := HFN.out
          cases all with
          | true => rw [if_pos rfl] at hfn; exact .inl hfn
          | false => rw [if_neg (by decide)] at hfn; exact .inr hfn
        clear HFN
        rcases h12 with rfl | rfl
        · go_wp2_with fail
          refine (HSELF.out _).mono ?_
          rintro e w3 ⟨rfl, rfl⟩
          go_wp2_with fail
          refine wp_region_held (S := fun _ => True) (by kernel_rfl) ?_
          refine h_take 0 (.func (.func 52) #[] #[.pointer (some ⟨bx, 0, none⟩)]) rfl (by kernel_rfl) (by kernel_rfl) (by kernel_rfl) (fun _ _ _ h => h) (by kernel_rfl) trivial (fun _ _ => by kernel_rfl) ?_
          refine h_take 1 (.int .u8 (b.toNat : Int)) rfl (by kernel_rfl) (by kernel_rfl) (by kernel_rfl) (fun _ _ _ h => h) (by kernel_rfl) trivial (fun _ _ => by kernel_rfl) ?_
          refine h_take 2 (.int .u8 ((b.toNat / 16 : Nat) : Int)) rfl (by kernel_rfl) (by kernel_rfl) (by kernel_rfl) (fun _ _ _ h => h) (by kernel_rfl) trivial (by intro v hv; go_simp) ?_
          refine h_take 3 (.int .u8 ((dig (b.toNat / 16)).toNat : Int)) rfl (by kernel_rfl) (by kernel_rfl) (by kernel_rfl) (fun _ _ _ h => h) (by kernel_rfl) trivial (by intro v hv; go_simp; exact digs_ix _ _ (by omega) (by omega) _ _ _) ?_
          refine h_take 4 (.int .u8 (b.toNat : Int)) rfl (by kernel_rfl) (by kernel_rfl) (by kernel_rfl) (fun _ _ _ h => h) (by kernel_rfl) trivial (fun _ _ => by kernel_rfl) ?_
          refine h_take 5 (.int .u8 ((b.toNat % 16 : Nat) : Int)) rfl (by kernel_rfl) (by kernel_rfl) (by kernel_rfl) (fun _ _ _ h => h) (by kernel_rfl) trivial (by intro v hv; go_simp; exact u8_and15 _ (by omega) (by omega)) ?_
          refine h_take 6 (.int .u8 ((dig (b.toNat % 16)).toNat : Int)) rfl (by kernel_rfl) (by kernel_rfl) (by kernel_rfl) (fun _ _ _ h => h) (by kernel_rfl) trivial (by intro v hv; go_simp; exact digs_ix _ _ (by omega) (by omega) _ _ _) ?_
          refine h_one 7 rfl (by kernel_rfl) (by kernel_rfl) (fun K hK => ?_)
          go_simp
          refine hK _ _ trivial ?_
          clear hK K
          refine h_one 8 rfl (by kernel_rfl) (by kernel_rfl) (fun K hK => ?_)
          go_simp
          refine (H16 _ (((Below.refl _ wr).drew).alloc (Nat.le_refl _) _) (fun h => by cases h) ((reads_three wr.drew 5 92 (dig (b.toNat / 16)) (dig (b.toNat % 16))).more (by simp)) (by trivial)).mono ?_
          rintro e w4 ⟨rfl, hb4, ht4⟩
          have HB4 := Lib.hid hb4
          have HT4 := Lib.hid ht4
          clear hb4 ht4
          refine hK _ _ trivial ?_
          clear hK K
          refine wpAnyH_done (by kernel_rfl) ?_ _
          go_simp
          go_wp2
          exact ⟨⟨i + 1, by rw [← HN.out]; omega, by go_num, HB4.out, HT4.out⟩, by simp [intOf]; omega⟩
        · go_wp2_with fail
          refine (HSELF.out _).mono ?_
          rintro e w3 ⟨rfl, rfl⟩
          go_wp2_with fail
          refine wp_region_held (S := fun _ => True) (by kernel_rfl) ?_
          refine h_take 0 (.func (.func 52) #[] #[.pointer (some ⟨bx, 0, none⟩)]) rfl (by kernel_rfl) (by kernel_rfl) (by kernel_rfl) (fun _ _ _ h => h) (by kernel_rfl) trivial (fun _ _ => by kernel_rfl) ?_
          refine h_take 1 (.int .u8 (b.toNat : Int)) rfl (by kernel_rfl) (by kernel_rfl) (by kernel_rfl) (fun _ _ _ h => h) (by kernel_rfl) trivial (fun _ _ => by kernel_rfl) ?_
          refine h_take 2 (.int .u8 ((b.toNat / 16 : Nat) : Int)) rfl (by kernel_rfl) (by kernel_rfl) (by kernel_rfl) (fun _ _ _ h => h) (by kernel_rfl) trivial (by intro v hv; go_simp) ?_
          refine h_take 3 (.int .u8 ((dig (b.toNat / 16)).toNat : Int)) rfl (by kernel_rfl) (by kernel_rfl) (by kernel_rfl) (fun _ _ _ h => h) (by kernel_rfl) trivial (by intro v hv; go_simp; exact digs_ix _ _ (by omega) (by omega) _ _ _) ?_
          refine h_take 4 (.int .u8 (b.toNat : Int)) rfl (by kernel_rfl) (by kernel_rfl) (by kernel_rfl) (fun _ _ _ h => h) (by kernel_rfl) trivial (fun _ _ => by kernel_rfl) ?_
          refine h_take 5 (.int .u8 ((b.toNat % 16 : Nat) : Int)) rfl (by kernel_rfl) (by kernel_rfl) (by kernel_rfl) (fun _ _ _ h => h) (by kernel_rfl) trivial (by intro v hv; go_simp; exact u8_and15 _ (by omega) (by omega)) ?_
          refine h_take 6 (.int .u8 ((dig (b.toNat % 16)).toNat : Int)) rfl (by kernel_rfl) (by kernel_rfl) (by kernel_rfl) (fun _ _ _ h => h) (by kernel_rfl) trivial (by intro v hv; go_simp; exact digs_ix _ _ (by omega) (by omega) _ _ _) ?_
          refine h_one 7 rfl (by kernel_rfl) (by kernel_rfl) (fun K hK => ?_)
          go_simp
          refine hK _ _ trivial ?_
          clear hK K
          refine h_one 8 rfl (by kernel_rfl) (by kernel_rfl) (fun K hK => ?_)
          go_simp
          refine (H16 _ (((Below.refl _ wr).drew).alloc (Nat.le_refl _) _) (fun h => by cases h) ((reads_three wr.drew 5 92 (dig (b.toNat / 16)) (dig (b.toNat % 16))).more (by simp)) (by trivial)).mono ?_
          rintro e w4 ⟨rfl, hb4, ht4⟩
          have HB4 := Lib.hid hb4
          have HT4 := Lib.hid ht4
          clear hb4 ht4
          refine hK _ _ trivial ?_
          clear hK K
          refine wpAnyH_done (by kernel_rfl) ?_ _
          go_simp
          go_wp2
          exact ⟨⟨i + 1, by rw [← HN.out]; omega, by go_num, HB4.out, HT4.out⟩, by simp [intOf]; omega⟩
    · obtain rfl : i = n := by omega
      rw [List.take_of_length_le (by rw [← HN.out]; omega)] at hbx2
      have HB2 := Lib.hid hbx2
      have HT2 := Lib.hid (Turn.below (n0 := base) htu (fun _ h => h.1) (by rw [HXS.out]; omega))
      clear hbx2 htu
      go_wp2
      go_end0
      exact ⟨rfl, HB2.out, (HBL.out.mono (by omega)).trans HT2.out⟩

end Go.Proofs.YtgioknppnfencaaDoor

/- escape.Put. -/
namespace Go.Proofs.YtgioknppnfencaaDoor
open Go.RowKit

theorem emp_bytes (l : List UInt8) : (tx l).toList.isEmpty = decide (l = []) := by rw [tx_toList]; cases l <;> simp

set_option maxRecDepth 100000 in
set_option maxHeartbeats 1000000 in
theorem eput_any (l : List UInt8) (hl : l.length ≤ 1000) (w : World) :
    Calls Tryd.prog 32 #[.string (tx l)] w fun e w' => e = .returned (.string (tx (eput l))) ∧ Below w.heap.size w w' := by
  by_cases h0 : l = []
  · subst h0
    have h1 : (tx []).toList.isEmpty = true := by rw [emp_bytes]; decide
    go_enter Tryd.func32, Tryd.ntmps32
    go_wp2
    go_ret
    exact ⟨rfl, Below.refl _ _⟩
  · have h1 : (tx l).toList.isEmpty = false := by rw [emp_bytes, decide_eq_false h0]
    have h2 : (!(tx l).toList.isEmpty) = true := by rw [h1]; rfl
    obtain ⟨all, hall⟩ : ∃ all, all = decide (l = [45]) := ⟨_, rfl⟩
    have hit : Hid (∀ W, Calls Tryd.prog 51 #[.string (tx l)] W fun e w' => e = .returned (itv all) ∧ W = w') := fun W => by
      by_cases h : l = [45]
      · rw [hall, decide_eq_true h]; subst h; exact itself_h W
      · rw [hall, decide_eq_false h]; exact itself_o l h W
    have hb0 := (Below.refl w.heap.size w).alloc (Nat.le_refl _) (.cells #[.slice none 0 0] 39)
    have hn := one_new w (.cells #[.slice none 0 0] 39)
    have hwr : Hid (Calls Tryd.prog 50 #[.string (tx l), itv all, .func (.func 52) #[] #[.pointer (some ⟨w.heap.size, 0, none⟩)]] (w.alloc (.cells #[.slice none 0 0] 39)) fun e w' => e = .returned (.tuple #[]) ∧ Bx w' w.heap.size w.heap.size (w.alloc (.cells #[.slice none 0 0] 39)).heap.size ([] ++ l.flatMap (sgn all)) ∧ Below w.heap.size (w.alloc (.cells #[.slice none 0 0] 39)) w') := by
      unfold itv
      exact write_any0 all _ rfl l [] hl (by simp) w.heap.size w.heap.size _ ⟨Nat.le_refl _, _, hn, World.ownsRow_nil _ _ _ _, fun g hg => by simp [Value.ownBlock] at hg⟩
    have hfin0 : eput l = [] ++ l.flatMap (sgn all) := by unfold eput; rw [if_neg h0, hall]; rfl
    rw [← hfin0] at hwr
    generalize eput l = ac at hwr ⊢
    have HB0 := Lib.hid hb0
    have hmf : ∀ (fn : Fn) (first cap : Array Value) (w : World), (Instr.makeFunc fn first cap).run Tryd.prog w = .ok (.func fn first cap) w := fun _ _ _ _ => rfl
    unfold itv at hit hwr
    generalize hfv : (Value.func (.func (if all = true then 64 else 65)) #[] #[]) = fv at hit hwr
    clear hb0 hn h0 hall hfv hfin0
    go_enter Tryd.func32, Tryd.ntmps32
    go_wp2_with (first
      | (go_at_call 51; refine (hit.out _).mono ?_; rintro e w3 ⟨rfl, rfl⟩)
      | (go_at_call 50; refine hwr.out.mono ?_; rintro e w4 ⟨rfl, hb4, ht4⟩; obtain ⟨_, v4, hh4, ho4, _⟩ := hb4; have p0 := at_cell (i := 0) hh4 rfl; obtain ⟨A4, c4, rfl, _⟩ := own_slice ho4; have HR4 := Lib.hid (Reads.of_own ho4); have HT4 := Lib.hid ht4; have hcv := conv_reads (P := Tryd.prog) (src := 39) (dst := 9) (c := c4) Tryd.underlying39 Tryd.underlying5 Tryd.underlying9 HR4.out; clear hh4 ho4 ht4))
    go_ret
    exact ⟨rfl, HB0.out.trans HT4.out⟩

end Go.Proofs.YtgioknppnfencaaDoor

/- The mathematics of lines. -/
namespace Go.Proofs.YtgioknppnfencaaDoor

/-- A line's parts. -/
def words : List UInt8 → List (List UInt8)
  | [] => [[]]
  | c :: l => if c = 32 then [] :: words l else match words l with
    | [] => [[c]]
    | w :: ws => (c :: w) :: ws

theorem words_ne (l : List UInt8) : words l ≠ [] := by
  cases l with
  | nil => simp [words]
  | cons c l =>
    unfold words
    split
    · simp
    · split <;> simp
theorem words_miss : ∀ (a : List UInt8), (∀ b ∈ a, b ≠ 32) → words a = [a]
  | [], _ => rfl
  | c :: a, h => by
    have ih := words_miss a (fun b hb => h b (by simp [hb]))
    unfold words
    rw [if_neg (h c (by simp)), ih]
theorem words_hit : ∀ (a r : List UInt8), (∀ b ∈ a, b ≠ 32) → words (a ++ 32 :: r) = a :: words r
  | [], r, _ => by
    show words (32 :: r) = _
    rw [words, if_pos rfl]
  | c :: a, r, h => by
    have ih := words_hit a r (fun b hb => h b (by simp [hb]))
    show words (c :: (a ++ 32 :: r)) = _
    rw [words, if_neg (h c (by simp)), ih]

/-- Parts as a line. -/
def joinw (ws : List (List UInt8)) : List UInt8 := Lib.join ws [32]
theorem joinw_nil : joinw [] = [] := rfl
theorem joinw_one (a : List UInt8) : joinw [a] = a := by simp [joinw, Lib.join, List.intercalate]
theorem joinw_cons (a : List UInt8) (ws : List (List UInt8)) (h : ws ≠ []) : joinw (a :: ws) = a ++ 32 :: joinw ws := by
  cases ws with
  | nil => contradiction
  | cons b ws => simp [joinw, Lib.join, List.intercalate]

theorem part_at (l : List UInt8) : (∀ b ∈ l, b ≠ 32) ∨ ∃ a r, l = a ++ 32 :: r ∧ ∀ b ∈ a, b ≠ 32 := by
  induction l with
  | nil => left; simp
  | cons c l ih =>
    by_cases hc : c = 32
    · subst hc
      exact .inr ⟨[], l, rfl, by simp⟩
    · rcases ih with ih | ⟨a, r, rfl, ih⟩
      · left
        intro b hb
        rcases List.mem_cons.1 hb with rfl | hb
        · exact hc
        · exact ih b hb
      · refine .inr ⟨c :: a, r, rfl, ?_⟩
        intro b hb
        rcases List.mem_cons.1 hb with rfl | hb
        · exact hc
        · exact ih b hb

theorem joinw_words : ∀ (n : Nat) (l : List UInt8), l.length ≤ n → joinw (words l) = l
  | 0, l, h => by
    have : l = [] := List.eq_nil_of_length_eq_zero (by omega)
    subst this
    rfl
  | n + 1, l, h => by
    rcases part_at l with hm | ⟨a, r, rfl, ha⟩
    · rw [words_miss l hm, joinw_one]
    · rw [words_hit a r ha, joinw_cons a _ (words_ne r), joinw_words n r (by simp at h; omega)]

theorem words_joinw : ∀ (ws : List (List UInt8)), ws ≠ [] → (∀ w ∈ ws, ∀ b ∈ w, b ≠ 32) → words (joinw ws) = ws
  | [], h, _ => absurd rfl h
  | [a], _, h => by rw [joinw_one, words_miss a (h a (by simp))]
  | a :: b :: ws, _, h => by
    rw [joinw_cons a (b :: ws) (by simp), words_hit a _ (h a (by simp)), words_joinw (b :: ws) (by simp) (fun w hw => h w (by simp [hw]))]

theorem words_len : ∀ (n : Nat) (l : List UInt8), l.length ≤ n → (words l).length ≤ l.length + 1
  | 0, l, h => by
    have : l = [] := List.eq_nil_of_length_eq_zero (by omega)
    subst this
    simp [words]
  | n + 1, l, h => by
    rcases part_at l with hm | ⟨a, r, rfl, ha⟩
    · rw [words_miss l hm]; simp
    · rw [words_hit a r ha]
      have := words_len n r (by simp at h; omega)
      simp
      omega

/-- What Split makes. -/
theorem ixb_miss : ∀ {a : List UInt8}, (∀ b ∈ a, b ≠ 32) → Lib.indexByte a 32 = -1
  | [], _ => rfl
  | c :: a, h => by
    have ih := ixb_miss (a := a) (fun b hb => h b (by simp [hb]))
    have hc : (c == 32) = false := by simpa using h c (by simp)
    unfold Lib.indexByte
    rw [hc, ih]
    rfl
theorem ixb_hit : ∀ {a r : List UInt8}, (∀ b ∈ a, b ≠ 32) → Lib.indexByte (a ++ 32 :: r) 32 = (a.length : Int)
  | [], r, _ => by simp [Lib.indexByte]
  | c :: a, r, h => by
    have ih := ixb_hit (a := a) (r := r) (fun b hb => h b (by simp [hb]))
    have hc : (c == 32) = false := by simpa using h c (by simp)
    show Lib.indexByte (c :: (a ++ 32 :: r)) 32 = _
    unfold Lib.indexByte
    rw [hc, ih]
    have h2 : ((a.length : Int) == -1) = false := by rw [beq_eq_false_iff_ne]; omega
    simp [h2]

theorem split_words (sep : ByteArray) (hsep : sep = tx [32]) : ∀ (n : Nat) (l : List UInt8), l.length ≤ n → (Lib.splitB sep 0 (Lib.countB (tx l) sep) (tx l)).map Value.string = (words l).map tsv ∧ Lib.countB (tx l) sep + 1 = (words l).length := by
  have h1s : 1 ≤ sep.size := by rw [hsep, tx_size]; simp
  have hix : ∀ l : List UInt8, Lib.indexB (tx l) sep = Lib.indexByte l 32 := fun l => by
    rw [hsep]
    show Lib.index (tx l).data.toList (tx [32]).data.toList = _
    exact Lib.index_one _ _
  have hsz : sep.size = 1 := by rw [hsep, tx_size]; rfl
  have hex : ∀ (a r : List UInt8), (tx (a ++ 32 :: r)).extract (a.length + sep.size) (tx (a ++ 32 :: r)).size = tx r := fun a r => by
    rw [hsz]
    apply ByteArray.ext
    simp [tx, ByteArray.data_extract, ByteArray.size]
    rw [show a.length + (r.length + 1) - (a.length + 1) = r.length by omega, List.take_length]
  have hex0 : ∀ (a r : List UInt8), (tx (a ++ 32 :: r)).extract 0 (a.length + 0) = tx a := fun a r => by
    apply ByteArray.ext
    simp [tx, ByteArray.data_extract]
  intro n
  induction n with
  | zero =>
    intro l h
    have : l = [] := List.eq_nil_of_length_eq_zero (by omega)
    subst this
    have hm : Lib.indexB (tx []) sep = -1 := by rw [hix]; rfl
    rw [Lib.countB_miss _ _ hm, Lib.splitB_miss _ _ _ _ hm]
    exact ⟨rfl, rfl⟩
  | succ n ih =>
    intro l h
    rcases part_at l with hm | ⟨a, r, rfl, ha⟩
    · have hm2 : Lib.indexB (tx l) sep = -1 := by rw [hix]; exact ixb_miss hm
      rw [Lib.countB_miss _ _ hm2, Lib.splitB_miss _ _ _ _ hm2, words_miss l hm]
      exact ⟨rfl, rfl⟩
    · have hh : Lib.indexB (tx (a ++ 32 :: r)) sep = (a.length : Int) := by rw [hix]; exact ixb_hit ha
      have hr := ih r (by simp at h; omega)
      rw [Lib.countB_hit _ _ a.length h1s hh, hex, words_hit a r ha, Nat.add_comm 1, Lib.splitB_hit _ _ _ _ a.length hh, hex, hex0, List.map_cons, hr.1, List.length_cons]
      exact ⟨rfl, by omega⟩

end Go.Proofs.YtgioknppnfencaaDoor

/- escape.Join of any words (for a seat without escape's law). -/
namespace Go.Proofs.YtgioknppnfencaaDoor
open Go.RowKit

theorem cell_spot {w : World} {a : Addr} {v : Value} (h : w.cell? a = some v) : a = ⟨a.block, a.off, none⟩ := by
  obtain ⟨b, o, s⟩ := a
  cases s with
  | none => rfl
  | some x =>
    unfold World.cell? at h
    split at h
    · simp at h
    · cases h

theorem joinw_data (xs : List (List UInt8)) : Lib.join ((xs.map tx).map (·.data.toList)) ({ data := #[32] } : ByteArray).data.toList = joinw xs := by
  unfold joinw
  congr 1
  rw [List.map_map]
  conv => rhs; rw [← List.map_id xs]
  apply List.map_congr_left
  intro a _
  simp [tx]

set_option maxRecDepth 100000 in
theorem ejoinL_any (L : Option Addr) (n c : Nat) (ws : List (List UInt8)) (hc : n ≤ c) (hn : n ≤ 1000000) (hj : (joinw ws).length ≤ 100000000) (w : World) (hr : Reads w w.heap.size 1 L n (ws.map tsv)) :
    Calls Tryd.prog 15 #[.slice L n c] w fun e w' => e = .returned (.string (tx (joinw ws))) ∧ Below w.heap.size w w' := by
  have hln : ws.length = n := by have := hr.1; simpa using this
  have H : Hid (Calls Tryd.prog 28 #[.slice L n c, .string { data := #[32] }] w fun e w' => e = .returned (.string (tx (joinw ws))) ∧ Below w.heap.size w w') := by
    by_cases h0 : n = 0
    · subst h0
      have : ws = [] := List.eq_nil_of_length_eq_zero hln
      subst this
      refine (Tryd.strings_Join_none L c { data := #[32] } w).mono ?_
      rintro e w' ⟨rfl, rfl⟩
      exact ⟨rfl, Below.refl _ _⟩
    · obtain ⟨ad, rfl, hlt, hcell⟩ := hr.2 (by omega)
      obtain ⟨x0, hx0⟩ : ∃ x0, ws[0]? = some x0 := ⟨_, List.getElem?_eq_getElem (by omega)⟩
      have hsp := cell_spot (show w.cell? ad = some (tsv x0) from by
        have := hcell 0 (tsv x0) (by rw [List.getElem?_map, hx0]; rfl)
        simpa [Addr.add] using this)
      obtain ⟨bk, o, sp⟩ := ad
      have hsp2 : sp = none := congrArg Addr.spot hsp
      subst hsp2
      have h2 := Tryd.strings_Join bk o c (ws.map tx) { data := #[32] } w (fun j x hx => by
        rw [List.getElem?_map] at hx
        obtain ⟨y, hy, rfl⟩ := Option.map_eq_some_iff.1 hx
        have := hcell j (tsv y) (by rw [List.getElem?_map, hy]; rfl)
        rw [show (⟨bk, o, none⟩ : Addr).add j = ⟨bk, o + j, none⟩ from by unfold Addr.add; split <;> simp_all] at this
        exact this) hlt (by simp; omega) (by simp; omega) (by rw [joinw_data]; omega)
      rw [joinw_data, List.length_map, hln] at h2
      exact h2
  clear hr
  go_enter Tryd.func15, Tryd.ntmps15
  go_wp2_with fail
  refine H.out.mono ?_
  rintro e w3 ⟨rfl, hb⟩
  go_wp2
  go_ret
  exact ⟨rfl, hb⟩

theorem joinw_snoc : ∀ (ws : List (List UInt8)) (a : List UInt8), ws ≠ [] → joinw (ws ++ [a]) = joinw ws ++ 32 :: a
  | [], a, h => absurd rfl h
  | [b], a, _ => by
    show joinw (b :: [a]) = _
    rw [joinw_cons b [a] (by simp), joinw_one, joinw_one]
  | b :: c :: ws, a, _ => by
    show joinw (b :: ((c :: ws) ++ [a])) = _
    rw [joinw_cons b _ (by simp), joinw_snoc (c :: ws) a (by simp), joinw_cons b (c :: ws) (by simp)]
    simp
theorem joinw_take : ∀ (ws : List (List UInt8)), (∀ x ∈ ws, x.length ≤ 2000) → (joinw ws).length ≤ 2001 * ws.length
  | [], _ => by simp [joinw_nil]
  | [a], h => by rw [joinw_one]; have := h a (by simp); simp; omega
  | a :: b :: ws, h => by
    have h1 := joinw_take (b :: ws) (fun x hx => h x (by simp [hx]))
    have h2 := h a (by simp)
    rw [joinw_cons a (b :: ws) (by simp), List.length_append, List.length_cons, List.length_cons]
    omega

theorem own_cap {w : World} {base n c size : Nat} {e : TypeId} {A : Option Addr} {xs : List Value} (h : w.ownsRow base e size (.slice A n c) n xs) : n ≤ c := by
  rcases h.2 with ⟨h3, h4⟩ | ⟨g, cap, cur, h3, _, _, hn, _⟩
  · omega
  · injection h3 with _ _ h3
    omega

end Go.Proofs.YtgioknppnfencaaDoor

/- Numbers in decimal digits: strconv.FormatUint at 10, and the document's Digits. -/
namespace Go.Proofs.YtgioknppnfencaaDoor
open Go.Sort Go.RowKit

def PowTab (w : World) : Prop := Lib.TabIs Tryd.prog w "internal/strconv.uint64pow10" .u64 Lib.pow10Tab

theorem below_grow (w : World) (k : Nat) (os : Array Obj) : Below w.heap.size w (grow (w.drewN k) os) :=
  ⟨rfl, rfl, rfl, by show w.heap.size ≤ (w.heap ++ os).size; simp, fun b hb => Lib.heap_grow_old w k os b hb⟩

set_option maxRecDepth 100000 in
set_option maxHeartbeats 1000000 in
theorem ifmt_any (u : Nat) (hu64 : u < 18446744073709551616) (w : World) (htab : PowTab w) :
    Calls Tryd.prog 53 #[.int .u64 (u : Int), .int .i64 10] w fun e w' => e = .returned (.string (tx (Lib.decDigits u))) ∧ Below w.heap.size w w' := by
  by_cases hs : u < 100
  · have HSM := Lib.hid (fun W => Tryd.internal_strconv_small u hs W)
    have hw : IntKind.i64.wrap (u : Int) = (u : Int) := by rw [IntKind.wrap_i64]; omega
    have hui : (u : Int) < 100 := by omega
    go_enter Tryd.func53, Tryd.ntmps53
    go_wp2_with fail
    refine (HSM.out _).mono ?_
    rintro e w1 ⟨rfl, rfl⟩
    go_wp2
    go_ret
    exact ⟨rfl, Below.refl _ _⟩
  · have hu1 : 1 ≤ u := by omega
    have hui : ¬ (u : Int) < 100 := by omega
    have hnd20 : Lib.nDigits u ≤ 20 := by have := Lib.numDigits_eq u hu1 hu64; split at this <;> omega
    have hH0 := Lib.holds_zero0 w 82 (Lib.nDigits u) (by omega)
    have hfmt := Tryd.internal_strconv_formatBase10 w.heap.size 0 24 u (Array.replicate (Lib.nDigits u) 0) (w.alloc (.cells Lib.zeros24 82)) hH0 (by rw [Array.size_replicate]; exact Lib.lt_pow_nDigits u) hu64 (by rw [Array.size_replicate]; omega)
    rw [Array.size_replicate] at hfmt
    have hal : Tryd.prog.arrayLen 82 = 24 := by kernel_rfl
    have hsl2 : ∀ W, (Instr.sliceAt 82 (.pointer (some ⟨w.heap.size, 0, none⟩)) none (some (.int .i64 (Lib.nDigits u : Int))) none).run Tryd.prog W = .ok (.slice (some ⟨w.heap.size, 0, none⟩) (Lib.nDigits u) 24) W := fun W => by
      rw [run_sliceAt_array_h W 82 ⟨w.heap.size, 0, none⟩ (by kernel_rfl) .i64 (Lib.nDigits u : Int) (by omega) (by rw [hal]; omega)]
      go_simp
    have HH0 := Lib.hid hH0
    have HFM := Lib.hid hfmt
    have HND := Lib.hid (fun W h => Tryd.internal_strconv_numDigits u hu1 hu64 W h)
    have HTA := Lib.hid (Lib.tabIs_alloc (P := Tryd.prog) htab (.cells Lib.zeros24 82))
    clear hH0 hfmt htab hal
    go_enter Tryd.func53, Tryd.ntmps53
    go_wp2_with fail
    refine (HND.out _ HTA.out).mono ?_
    rintro e w1 ⟨rfl, rfl⟩
    go_wp2_with fail
    refine HFM.out.mono ?_
    rintro e w' ⟨rfl, k, v', dk, rfl, hF⟩
    have hcv : (convert 39 9 (.slice (some ⟨w.heap.size, 0, none⟩) (Lib.nDigits u) 24)).run Tryd.prog ((putRow (fun (b : UInt8) => Value.int .u8 (b.toNat : Int)) (w.alloc (.cells Lib.zeros24 82)) w.heap.size 0 dk).drewN k) = .ok (.string (tx (Lib.decDigits u))) ((putRow (fun (b : UInt8) => Value.int .u8 (b.toNat : Int)) (w.alloc (.cells Lib.zeros24 82)) w.heap.size 0 dk).drewN k) := by
      have h := run_convert_bytes_back (P := Tryd.prog) ((putRow (fun (b : UInt8) => Value.int .u8 (b.toNat : Int)) (w.alloc (.cells Lib.zeros24 82)) w.heap.size 0 dk).drewN k) 39 9 5 ⟨w.heap.size, 0, none⟩ 24 (Lib.decDigits u) Tryd.underlying39 Tryd.underlying5 Tryd.underlying9 (fun j hj => by
        rw [Lib.row_is_numeral hF j hj, Lib.add_plain, World.cell?_drewN]
        exact cell?_putRow (fun (b : UInt8) => Value.int .u8 (b.toNat : Int)) _ w.heap.size 0 _ dk HH0.out (by rw [hF.size, Array.size_replicate]) j (by rw [hF.size]; rw [Lib.decDigits_length] at hj; exact hj))
      rw [Lib.decDigits_length] at h
      exact h
    obtain ⟨os, eo⟩ := Lib.fin_at w (.cells Lib.zeros24 82) dk k 0
    have HB := Lib.hid (below_grow w k os)
    rw [← eo] at HB
    clear eo HFM HND HTA
    go_wp2
    go_ret
    exact ⟨rfl, HB.out⟩

set_option maxRecDepth 100000 in
theorem fmt_any (u : Nat) (hu64 : u < 18446744073709551616) (w : World) (htab : PowTab w) :
    Calls Tryd.prog 34 #[.int .u64 (u : Int), .int .i64 10] w fun e w' => e = .returned (.string (tx (Lib.decDigits u))) ∧ Below w.heap.size w w' := by
  have H := Lib.hid (ifmt_any u hu64 w htab)
  go_enter Tryd.func34, Tryd.ntmps34
  go_wp2_with fail
  refine H.out.mono ?_
  rintro e w1 ⟨rfl, hb⟩
  go_wp2
  go_ret
  exact ⟨rfl, hb⟩

theorem dig_piece (m : Nat) (hm : m < 10) : ({ data := #[48, 49, 50, 51, 52, 53, 54, 55, 56, 57] } : ByteArray).extract m (m + 1) = tx [UInt8.ofNat (48 + m)] := by
  have : ∀ j : Fin 10, ({ data := #[48, 49, 50, 51, 52, 53, 54, 55, 56, 57] } : ByteArray).extract j.val (j.val + 1) = tx [UInt8.ofNat (48 + j.val)] := by decide
  exact this ⟨m, hm⟩

theorem dec_small {u : Nat} (h : u < 10) : Lib.decDigits u = [UInt8.ofNat (48 + u)] := by unfold Lib.decDigits; rw [dif_pos h]
theorem dec_big {u : Nat} (h : ¬ u < 10) : Lib.decDigits u = Lib.decDigits (u / 10) ++ Lib.decDigits (u % 10) := by
  rw [dec_small (show u % 10 < 10 by omega)]
  conv => lhs; unfold Lib.decDigits; rw [dif_neg h]

set_option maxRecDepth 100000 in
set_option maxHeartbeats 1000000 in
theorem digits_any (u : Nat) (hu64 : u < 18446744073709551616) (w : World) :
    Calls Tryd.prog 21 #[.int .u64 (u : Int)] w fun e w' => e = .returned (.string (tx (Lib.decDigits u))) ∧ w = w' := by
  induction u using Nat.strongRecOn generalizing w with
  | _ u ih =>
    by_cases hs : u < 10
    · have hsl : ∀ W, (Instr.slice 9 (.string { data := #[48, 49, 50, 51, 52, 53, 54, 55, 56, 57] }) (some (.int .u64 (u : Int))) (some (.int .u64 ((u : Int) + 1))) none).run Tryd.prog W = .ok (.string (tx (Lib.decDigits u))) W := fun W => by
        have h1 := run_slice_string (P := Tryd.prog) W 9 { data := #[48, 49, 50, 51, 52, 53, 54, 55, 56, 57] } .u64 .u64 (u : Int) ((u : Int) + 1) Tryd.underlying9 (by omega) (by omega) (by show ((u : Int) + 1) ≤ 10; omega)
        rw [h1, Int.toNat_natCast, show ((u : Int) + 1).toNat = u + 1 by omega, dig_piece u hs, dec_small hs]
      have hw : IntKind.u64.wrap ((u : Int) + 1) = (u : Int) + 1 := by rw [IntKind.wrap_u64]; omega
      have hui : (u : Int) < 10 := by omega
      clear ih
      go_enter Tryd.func21, Tryd.ntmps21
      go_wp2
      go_ret
      exact ⟨rfl, rfl⟩
    · have h1 := Lib.hid (fun W => ih (u / 10) (by omega) (by omega) W)
      have h2 := Lib.hid (fun W => ih (u % 10) (by omega) (by omega) W)
      have hln : (Lib.decDigits (u / 10)).length ≤ 30 := by
        have h3 := Lib.numDigits_eq (u / 10) (by omega) (by omega)
        rw [Lib.decDigits_length]
        split at h3 <;> omega
      have hadd : ∀ W : World, (Op.stringOp .add (tx (Lib.decDigits (u / 10))) (tx (Lib.decDigits (u % 10)))).run Tryd.prog W = .ok (.string (tx (Lib.decDigits u))) W := fun W => by
        rw [dec_big hs]
        exact add_tx W _ _ (by rw [dec_small (show u % 10 < 10 by omega)]; simp; omega)
      obtain ⟨q, hq⟩ : ∃ q, q = u / 10 := ⟨_, rfl⟩
      obtain ⟨r, hr⟩ : ∃ r, r = u % 10 := ⟨_, rfl⟩
      have k1 : (u : Int) / 10 = (q : Int) := by omega
      have k2 : (u : Int) % 10 = (r : Int) := by omega
      have k3 := wrap_n q (by omega)
      have k4 := wrap_n r (by omega)
      have hui : ¬ (u : Int) < 10 := by omega
      rw [← hq] at h1 hadd
      rw [← hr] at h2 hadd
      clear ih hln hq hr
      generalize tx (Lib.decDigits u) = s at *
      generalize tx (Lib.decDigits q) = s1 at *
      generalize tx (Lib.decDigits r) = s2 at *
      go_enter Tryd.func21, Tryd.ntmps21
      go_wp2_with fail
      refine (h1.out _).mono ?_
      rintro e w1 ⟨rfl, rfl⟩
      go_wp2_with fail
      refine (h2.out _).mono ?_
      rintro e w2 ⟨rfl, rfl⟩
      go_wp2
      go_ret
      exact ⟨rfl, rfl⟩

end Go.Proofs.YtgioknppnfencaaDoor

/- dump: what gathers words; a dep's second word. -/
namespace Go.Proofs.YtgioknppnfencaaDoor
open Go.RowKit

/-- append looks at its second type for one thing alone. -/
theorem append_types {P : Program} (t t2 e e2 ty : TypeId) (v x : Value) (w : World) (hv : ∃ b n c, v = .slice b n c) (h : P.underlying t = some (.slice e)) (h2 : P.underlying t2 = some (.slice e2)) :
    (Builtin.append_ #[t, t2] ty #[v, x]).run P w = (Builtin.append_ #[t, t] ty #[v, x]).run P w := by
  obtain ⟨b, n, c, rfl⟩ := hv
  unfold Builtin.append_
  simp only [List.getElem?_toArray, List.getElem?_cons_zero, List.getElem?_cons_succ, Sem.run_bind, run_underlying h, Result.andThen_ok]
  cases hz : (sizeOf e).run P w with
  | ok q w2 => simp [Result.andThen, Sem.run_bind, run_underlying h2]
  | halt q w2 => simp [Result.andThen]
theorem wp_append_two {P : Program} {w : World} {o : Oper} {a : Act} {K : Act → World → Prop} {Q : Exit → Act → World → Prop} (s x : Operand) (t t2 e2 : TypeId) (ht2 : P.underlying t2 = some (.slice e2))
    (ho : o.op = .call { callee := .builtin .append, args := #[s, x], argTypes := #[t, t2] })
    (base : Nat) (e : TypeId) (i : TypeInfo) (z : Value) (size bytes : Nat) (ht : P.underlying t = some (.slice e)) (hi : P.info? e = some i) (hz : i.zero = some z)
    (hsize : i.size = size) (hby : i.bytes = bytes) (hzs : z.cells.size = size) (hsz : 0 < size)
    (v : Value) (n : Nat) (xs : List Value) (hs : a.eval s = v) (hown : w.ownsRow base e size v n xs)
    (A : Option Addr) (m c B : Nat) (news : List Value) (hx : a.eval x = .slice A m c) (hA : A = none → c = 0) (hr : Reads w B size A m news) (h1 : ∀ u ∈ news, u.oneCell' = true)
    (h63 : n + m ≤ maxLen) (hbytes : (n + m) * bytes ≤ 140737488355328) (hbase : base ≤ w.heap.size)
    (h : ∀ v' w', w'.ownsRow base e size v' (n + m) (xs ++ news) → w.grownBy w' v.ownBlock → (v'.ownBlock = v.ownBlock ∨ v'.ownBlock = some w.heap.size) → K (a.put o.dst v') w') : o.wp P a w K Q := by
  cases A with
  | none =>
    have hm : m = 0 := by
      rcases Nat.eq_zero_or_pos m with h0 | h0
      · exact h0
      · obtain ⟨ad, e, _⟩ := hr.2 h0
        cases e
    subst hm
    have hc := hA rfl
    subst hc
    have hnews : news = [] := List.eq_nil_of_length_eq_zero (by have := hr.1; simpa using this)
    subst hnews
    have hrun := (append_types t t2 e e2 o.type v (.slice none 0 0) w (by obtain ⟨A, c, e, _⟩ := own_slice hown; exact ⟨A, n, c, e⟩) ht ht2).trans (run_append_owned_none (P := P) (w := w) base t o.type e i size ht hi v n xs hown)
    unfold Oper.wp
    simp [execOp, ho, resolve, invoke, builtin, hs, hx, hrun, Result.andThen]
    exact h v w (by simpa using hown) (World.grownBy.refl w _) (.inl rfl)
  | some ad =>
    obtain ⟨v', w', hr', h2, h3, _, h5⟩ := run_append_own_at (P := P) w base t o.type e i z size bytes ht hi hz hsize hby hzs hsz v n xs hown ad m c news hr.1 (by
      intro j u hu
      by_cases h0 : 0 < m
      · obtain ⟨ad', e, _, hc⟩ := hr.2 h0
        cases e
        exact hc j u hu
      · have hl := hr.1
        have := (List.getElem?_eq_some_iff.1 hu).1
        have h00 : m = 0 := by omega
        subst h00
        omega) h1 h63 hbytes hbase
    have hr'' := (append_types t t2 e e2 o.type v (.slice (some ad) m c) w (by obtain ⟨A, c, e, _⟩ := own_slice hown; exact ⟨A, n, c, e⟩) ht ht2).trans hr'
    unfold Oper.wp execOp
    simp only [ho, resolve, invoke, builtin, Sem.run_bind, Sem.run_pure, Result.andThen_ok, List.map_toArray, List.map_cons, List.map_nil, hs, hx, hr'']
    exact h v' w' h2 h3 h5
theorem wpList_append_two {P : Program} (w : World) {ops : Array Oper} {rest : List Oper} {o : Oper} {a : Act} {Q : Exit → Act → World → Prop} (hgd : o.guard = none) (s x : Operand) (t t2 e2 : TypeId) (ht2 : P.underlying t2 = some (.slice e2))
    (ho : o.op = .call { callee := .builtin .append, args := #[s, x], argTypes := #[t, t2] })
    (base : Nat) (e : TypeId) (i : TypeInfo) (z : Value) (size bytes : Nat) (ht : P.underlying t = some (.slice e)) (hi : P.info? e = some i) (hz : i.zero = some z)
    (hsize : i.size = size) (hby : i.bytes = bytes) (hzs : z.cells.size = size) (hsz : 0 < size)
    (v : Value) (n : Nat) (xs : List Value) (hs : a.eval s = v) (hown : w.ownsRow base e size v n xs)
    (A : Option Addr) (m c B : Nat) (news : List Value) (hx : a.eval x = .slice A m c) (hA : A = none → c = 0) (hr : Reads w B size A m news) (h1 : ∀ u ∈ news, u.oneCell' = true)
    (h63 : n + m ≤ maxLen) (hbytes : (n + m) * bytes ≤ 140737488355328) (hbase : base ≤ w.heap.size)
    (h : ∀ v' w', w'.ownsRow base e size v' (n + m) (xs ++ news) → w.grownBy w' v.ownBlock → (v'.ownBlock = v.ownBlock ∨ v'.ownBlock = some w.heap.size) → wpList P ops Q rest (a.put o.dst v') w') : wpList P ops Q (o :: rest) a w := by
  refine wpList_plain hgd fun K hK => ?_
  exact wp_append_two s x t t2 e2 ht2 ho base e i z size bytes ht hi hz hsize hby hzs hsz v n xs hs hown A m c B news hx hA hr h1 h63 hbytes hbase (fun v' w' a b c => hK _ _ (h v' w' a b c))
theorem sinfo : (Tryd.prog.info? 9).map (fun i => (i.zero, i.size, i.bytes)) = some (some (.string { data := #[] }), 1, 16) := by kernel_rfl

/-- A variable in block g holds words of the call's own. -/
def Gx (w : World) (base g : Nat) (ws : List (List UInt8)) : Prop :=
  base ≤ g ∧ ∃ v, w.heap[g]? = some (.cells #[v] 60 (0, 0)) ∧ w.ownsRow base 9 1 v ws.length (ws.map tsv)

theorem Gx.below {w w' : World} {base g : Nat} {ws : List (List UInt8)} (h : Gx w base g ws) (hb : Below w.heap.size w w') : Gx w' base g ws := by
  obtain ⟨h0, v, h1, h2⟩ := h
  exact ⟨h0, v, (hb.block g (Array.getElem?_eq_some_iff.1 h1).1).trans h1, own_below h2 hb⟩

set_option maxRecDepth 100000 in
set_option maxHeartbeats 400000 in
theorem wadd_any (base g : Nat) (ws xs : List (List UInt8)) (A : Option Addr) (n c : Nat) (hn : n ≤ 10) (hws : ws.length ≤ 1000) (w : World) (hB : Gx w base g ws) (hA : A = none → c = 0) (hr : Reads w w.heap.size 1 A n (xs.map tsv)) :
    Calls Tryd.prog 31 #[.pointer (some ⟨g, 0, none⟩), .slice A n c] w fun e w' => e = .returned (.tuple #[]) ∧ Gx w' base g (ws ++ xs) ∧ Below base w w' ∧ ∀ (k : Nat) (cs : Array Value) (t : TypeId) (f : Nat × Nat), w.heap[k]? = some (.cells cs t f) → 9 ≠ t → k ≠ g → w'.heap[k]? = some (.cells cs t f) := by
  obtain ⟨i0, hi, hz0, hz1, hz2⟩ := info_parts sinfo
  have hln : xs.length = n := by have := hr.1; simpa using this
  obtain ⟨h0, v, h1, h2⟩ := hB
  have q0 := at_cell (i := 0) h1 rfl
  have hlt := (Array.getElem?_eq_some_iff.1 h1).1
  have hne : v.ownBlock ≠ some g := own_cells h2 h1 (by decide)
  have H1 := Lib.hid h1
  have H2 := Lib.hid h2
  have HNE := Lib.hid hne
  have HLN := Lib.hid hln
  have HR := Lib.hid hr
  have hbase : base ≤ w.heap.size := by omega
  have h1c : ∀ u ∈ xs.map tsv, u.oneCell' = true := fun u hu => by
    obtain ⟨x, _, rfl⟩ := List.mem_map.1 hu
    rfl
  have H1C := Lib.hid h1c
  clear h1 h2 hne hln hr h1c
  go_enter Tryd.func31, Tryd.ntmps31
  go_wp2_with (at_builtin; refine wpList_append_two _ rfl (.tmp 7) (.tmp 8) 60 57 9 Tryd.underlying57 rfl base 9 i0 _ 1 16 Tryd.underlying60 hi hz0 hz1 hz2 rfl (by decide) _ ws.length _ rfl H2.out A n c w.heap.size (xs.map tsv) rfl hA HR.out H1C.out (by unfold maxLen; omega) (by omega) hbase ?_; intro v1 w1 ho1 hg1 hv1; obtain ⟨A1, c1, rfl, _⟩ := own_slice ho1; have hb1 : w1.heap[g]? = some (.cells #[v] 60 (0, 0)) := (hg1.block g hlt (fun e => HNE.out e.symm)).trans H1.out; have p0 := at_cell (i := 0) hb1 rfl; have y0 := at_frozen (i := 0) hb1; have HO1 := Lib.hid ho1; have HG1 : Hid (w.grownBy w1 v.ownBlock) := hg1; have HB1 := Lib.hid hb1; clear ho1 hg1 hv1 hb1)
  go_end0
  have hne1 := own_cells HO1.out HB1.out (by decide)
  refine ⟨rfl, ⟨h0, _, set_same HB1.out 0 _, ?_⟩, ?_, fun k cs t f hk ht hkg => ?_⟩
  · have := own_heap HO1.out (w' := w1.setCell ⟨g, 0, none⟩ (.slice A1 (ws.length + n) c1)) (fun k hk => Below.heap_setCell _ _ _ k (fun e => hne1 (by rw [hk]; exact congrArg some e)))
    rw [List.map_append, List.length_append, HLN.out]
    exact this
  · exact ((Below.refl base w).grown HG1.out hbase (fun k hk => own_block H2.out k hk)).setCell (p := ⟨g, 0, none⟩) h0 _
  · have e1 := (HG1.out.block k (Array.getElem?_eq_some_iff.1 hk).1 (fun e => own_cells H2.out hk ht e.symm)).trans hk
    exact (Below.heap_setCell _ _ _ k hkg).trans e1

/-- A dep's second word. -/
def hashw (d : Dp) : List UInt8 := hexl d.hash.toNat 16 ++ (if d.order then [33] else [])

set_option maxRecDepth 100000 in
set_option maxHeartbeats 400000 in
theorem dhash_any (nm : List UInt8) (h : Int) (o : Bool) (h0 : 0 ≤ h) (h1 : h < 18446744073709551616) (w : World) :
    Calls Tryd.prog 35 #[.agg #[.string (tx nm), .int .u64 h, .bool o]] w fun e w' => e = .returned (.string (tx (hashw ⟨nm, h, o⟩))) ∧ Below w.heap.size w w' := by
  obtain ⟨z, rfl⟩ := Int.eq_ofNat_of_zero_le h0
  have hx : ∀ W, Calls Tryd.prog 33 #[.int .u64 (z : Int)] W fun e w' => e = .returned (.string (tx (hexl z 16))) ∧ Below W.heap.size W w' := fun W => by
    have h := hex_any (BitVec.ofNat 64 z) W
    rw [qv_ofNat (show z < top by unfold top; omega), BitVec.toNat_ofNat, Nat.mod_eq_of_lt (show z < 2 ^ 64 by omega)] at h
    exact h
  have HX := Lib.hid hx
  have H0 := Lib.hid (one_new w (.cells #[.string (tx nm), .int .u64 (z : Int), .bool o] 56))
  have HB0 := Lib.hid ((Below.refl _ w).alloc (Nat.le_refl _) (.cells #[.string (tx nm), .int .u64 (z : Int), .bool o] 56))
  have ha : ∀ W : World, (Op.stringOp .add (tx (hexl z 16)) { data := #[33] }).run Tryd.prog W = .ok (.string (tx (hexl z 16 ++ [33]))) W := fun W => add_tx W _ [33] (by rw [hexl_len]; simp)
  cases o with
  | true =>
    have hh : tx (hashw ⟨nm, (z : Int), true⟩) = tx (hexl z 16 ++ [33]) := rfl
    rw [hh]
    generalize tx (hexl z 16 ++ [33]) = s2 at *
    generalize tx (hexl z 16) = s1 at *
    generalize tx nm = s0 at *
    clear hx h0 h1 hh
    go_enter Tryd.func35, Tryd.ntmps35
    go_wp2_with fail
    refine (HX.out _).mono ?_
    rintro e w1 ⟨rfl, b1⟩
    have hq := (b1.block w.heap.size (by simp)).trans H0.out
    have q2 := at_cell (i := 2) hq rfl
    have HB1 := Lib.hid (HB0.out.trans (b1.mono HB0.out.size))
    clear b1 hq
    go_wp2
    go_ret
    exact ⟨rfl, HB1.out⟩
  | false =>
    have hh : tx (hashw ⟨nm, (z : Int), false⟩) = tx (hexl z 16) := by unfold hashw; simp
    rw [hh]
    generalize tx (hexl z 16) = s1 at *
    generalize tx nm = s0 at *
    clear hx h0 h1 hh ha
    go_enter Tryd.func35, Tryd.ntmps35
    go_wp2_with fail
    refine (HX.out _).mono ?_
    rintro e w1 ⟨rfl, b1⟩
    have hq := (b1.block w.heap.size (by simp)).trans H0.out
    have q2 := at_cell (i := 2) hq rfl
    have HB1 := Lib.hid (HB0.out.trans (b1.mono HB0.out.size))
    clear b1 hq
    go_wp2
    go_ret
    exact ⟨rfl, HB1.out⟩

end Go.Proofs.YtgioknppnfencaaDoor

/- dump.Line of what has one. -/
namespace Go.Proofs.YtgioknppnfencaaDoor
open Go.RowKit

theorem PowTab.below {w w' : World} (h : PowTab w) (hb : Below w.heap.size w w') : PowTab w' := by
  unfold PowTab Lib.TabIs World.var? at *
  cases hg : Tryd.prog.globalNamed "internal/strconv.uint64pow10" with
  | none => simp [hg] at h
  | some g =>
    simp only [hg, Option.bind_some] at h ⊢
    have hlt : g < w.heap.size := by
      rcases Nat.lt_or_ge g w.heap.size with h' | h'
      · exact h'
      · rw [Array.getElem?_eq_none h'] at h; simp at h
    rw [hb.block g hlt]
    exact h

/-- A dep's words; a record's ahead of them. -/
def depws (d : Dp) : List (List UInt8) := [eput d.name, hashw d]
def headws (t : List UInt8) (zu zo zm : Nat) (g : List UInt8) : List (List UInt8) := [eput t, hexl zu 16, hexl zo 16, Lib.decDigits zm, eput g]
def linews (t : List UInt8) (zu zo zm : Nat) (g : List UInt8) (l : List Dp) : List (List UInt8) := headws t zu zo zm g ++ l.flatMap depws

theorem depws_len : ∀ l : List Dp, (l.flatMap depws).length = 2 * l.length
  | [] => rfl
  | d :: l => by rw [List.flatMap_cons, List.length_append, depws_len l]; simp [depws]; omega
theorem depws_snoc {l : List Dp} {i : Nat} {d : Dp} (h : l[i]? = some d) : (l.take (i + 1)).flatMap depws = (l.take i).flatMap depws ++ depws d := by
  rw [List.take_add_one, h, List.flatMap_append]; simp
theorem hashw_len (d : Dp) : (hashw d).length ≤ 17 := by unfold hashw; rw [List.length_append, hexl_len]; split <;> simp
theorem dec_len {z : Nat} (h : z < 18446744073709551616) : (Lib.decDigits z).length ≤ 30 := by
  by_cases h1 : 1 ≤ z
  · have h3 := Lib.numDigits_eq z h1 h
    rw [Lib.decDigits_length]
    split at h3 <;> omega
  · rw [dec_small (by omega)]; simp
theorem linews_len {t g : List UInt8} {zu zo zm : Nat} {l : List Dp} (hm : zm < 18446744073709551616) (ht : t.length ≤ 300) (hg : g.length ≤ 300) (hl : ∀ d ∈ l, d.name.length ≤ 300) : ∀ x ∈ linews t zu zo zm g l, x.length ≤ 2000 := fun x hx => by
  have p1 := eput_len t
  have p2 := eput_len g
  rcases List.mem_append.1 hx with hx | hx
  · simp only [headws, List.mem_cons, List.not_mem_nil, or_false] at hx
    rcases hx with rfl | rfl | rfl | rfl | rfl
    · omega
    · rw [hexl_len]; omega
    · rw [hexl_len]; omega
    · have := dec_len hm; omega
    · omega
  · obtain ⟨d, hd, hx⟩ := List.mem_flatMap.1 hx
    simp only [depws, List.mem_cons, List.not_mem_nil, or_false] at hx
    have p3 := eput_len d.name
    have p4 := hl d hd
    have p5 := hashw_len d
    rcases hx with rfl | rfl <;> omega

theorem reads_words (W : World) (e : TypeId) (ts : List (List UInt8)) : Reads (W.alloc (.cells (ts.map tsv).toArray e)) (W.heap.size + 1) 1 (some ⟨W.heap.size, 0, none⟩) ts.length (ts.map tsv) :=
  ⟨by simp, fun _ => ⟨_, rfl, by simp, fun j u hu => by
    rw [show (⟨W.heap.size, 0, none⟩ : Addr).add j = ⟨W.heap.size, j, none⟩ from by unfold Addr.add; split <;> simp_all]
    simp only [World.cell?, World.alloc, Array.getElem?_push_size]
    simpa using hu⟩⟩

def LnRel (w : World) (B : Nat) (o : Obj) (g : Nat) (hd : List (List UInt8)) (l : List Dp) (idx : Value) (wr : World) : Prop :=
  ∃ i : Nat, i ≤ l.length ∧ idx = .int .i64 (i : Int) ∧ Gx wr B g (hd ++ (l.take i).flatMap depws) ∧ Below w.heap.size w wr ∧ wr.heap[w.heap.size]? = some o

set_option maxRecDepth 100000 in
set_option maxHeartbeats 2000000 in
theorem dline_ok (zu zo zm : Nat) (t g : List UInt8) (A : Option Addr) (n c : Nat) (l : List Dp) (hu : zu < 18446744073709551616) (ho : zo < 18446744073709551616) (hm : zm < 18446744073709551616) (hds : ∀ d ∈ l, 0 ≤ d.hash ∧ d.hash < 18446744073709551616)
    (hmay : MayP 3 ⟨1, t, (zu : Int), (zo : Int), (zm : Int), g⟩ l) (hfit : Fits ⟨1, t, (zu : Int), (zo : Int), (zm : Int), g⟩ l) (hsm : small ⟨1, t, (zu : Int), (zo : Int), (zm : Int), g⟩ l) (w : World) (hp : PowTab w) (h : Reads w w.heap.size 3 A n (dps l)) :
    Calls Tryd.prog 17 #[.agg #[.int .i64 1, .string (tx t), .int .u64 (zu : Int), .slice A n c, .int .u64 (zo : Int), .int .u64 (zm : Int), .string (tx g)]] w fun e w' => e = .returned (.tuple #[.string (tx (joinw (linews t zu zo zm g l))), .int .i64 0]) ∧ Below w.heap.size w w' := by
  have HL : Hid (l.length = n) := by have := h.1; rw [dps_len] at this; show _ = _; omega
  obtain ⟨hs1, hs2, hs3, hs4⟩ := hsm
  simp only at hs3 hs4
  have hn60 : n ≤ 60 := by rw [← HL.out]; exact hs2
  have H1 := Lib.hid h
  have HS1 := Lib.hid hs1
  have HDS := Lib.hid hds
  have HP := Lib.hid hp
  have H0 := Lib.hid (one_new w (.cells #[.int .i64 1, .string (tx t), .int .u64 (zu : Int), .slice A n c, .int .u64 (zo : Int), .int .u64 (zm : Int), .string (tx g)] 35))
  have HB0 := Lib.hid ((Below.refl w.heap.size w).alloc (Nat.le_refl _) (.cells #[.int .i64 1, .string (tx t), .int .u64 (zu : Int), .slice A n c, .int .u64 (zo : Int), .int .u64 (zm : Int), .string (tx g)] 35))
  have HMAY : Hid (∀ W, Below w.heap.size w W → Calls Tryd.prog 30 #[.int .i64 3, .agg #[.int .i64 1, .string (tx t), .int .u64 (zu : Int), .slice A n c, .int .u64 (zo : Int), .int .u64 (zm : Int), .string (tx g)]] W fun e w' => e = .returned (.bool true) ∧ Below W.heap.size W w') := fun W hW =>
    (may_any 3 ⟨1, t, (zu : Int), (zo : Int), (zm : Int), g⟩ A n c l (by omega) hfit W ((H1.out.below hW).more hW.size)).mono fun e w' ⟨ht, hb⟩ => ⟨ht.yes hmay, hb⟩
  have HPT := Lib.hid (fun W => eput_any t (by omega) W)
  have HPG := Lib.hid (fun W => eput_any g (by omega) W)
  have hxs : ∀ z : Nat, z < 18446744073709551616 → ∀ W, Calls Tryd.prog 33 #[.int .u64 (z : Int)] W fun e w' => e = .returned (.string (tx (hexl z 16))) ∧ Below W.heap.size W w' := fun z hz W => by
    have h := hex_any (BitVec.ofNat 64 z) W
    rw [qv_ofNat (show z < top by unfold top; omega), BitVec.toNat_ofNat, Nat.mod_eq_of_lt (show z < 2 ^ 64 by omega)] at h
    exact h
  have HXU := Lib.hid (hxs zu hu)
  have HXO := Lib.hid (hxs zo ho)
  have HFM := Lib.hid (fun W h => fmt_any zm hm W h)
  have HWS : Hid (headws t zu zo zm g = [eput t, hexl zu 16, hexl zo 16, Lib.decDigits zm, eput g]) := by show _ = _; rfl
  have HRW := Lib.hid (fun W => reads_words W 9 [eput t, hexl zu 16, hexl zo 16, Lib.decDigits zm, eput g])
  have HLL := Lib.hid (linews_len (zu := zu) (zo := zo) hm hs3 hs4 hs1)
  have HLW : Hid (linews t zu zo zm g l = headws t zu zo zm g ++ l.flatMap depws) := by show _ = _; rfl
  obtain ⟨W5, hW5⟩ : ∃ W5, W5 = [eput t, hexl zu 16, hexl zo 16, Lib.decDigits zm, eput g] := ⟨_, rfl⟩
  have hW5l : W5.length = 5 := by rw [hW5]; rfl
  have HW5L := Lib.hid hW5l
  have HW5 : Hid (W5.map tsv = [.string (tx (eput t)), .string (tx (hexl zu 16)), .string (tx (hexl zo 16)), .string (tx (Lib.decDigits zm)), .string (tx (eput g))]) := by show _ = _; rw [hW5]; rfl
  rw [← hW5] at HWS HRW
  generalize tx (eput t) = s1 at *
  generalize tx (hexl zu 16) = s2 at *
  generalize tx (hexl zo 16) = s3 at *
  generalize tx (Lib.decDigits zm) = s4 at *
  generalize tx (eput g) = s5 at *
  generalize linews t zu zo zm g l = lws at *
  generalize headws t zu zo zm g = hws at *
  generalize tx t = st at *
  generalize tx g = sg at *
  obtain ⟨jl, hjl0⟩ : ∃ jl, jl = tx (joinw lws) := ⟨_, rfl⟩
  rw [← hjl0]
  have HJL := Lib.hid hjl0
  clear hjl0
  have q0 := at_cell (i := 0) H0.out rfl
  have q1 := at_cell (i := 1) H0.out rfl
  have q2 := at_cell (i := 2) H0.out rfl
  have q3 := at_cell (i := 3) H0.out rfl
  have q4 := at_cell (i := 4) H0.out rfl
  have q5 := at_cell (i := 5) H0.out rfl
  have q6 := at_cell (i := 6) H0.out rfl
  clear h hp hds hs1 hs2 hs3 hs4 hmay hfit hW5 hW5l hxs
  go_enter Tryd.func17, Tryd.ntmps17
  go_wp2_with fail
  refine (HMAY.out _ HB0.out).mono ?_
  rintro e w1 ⟨rfl, b1⟩
  have hr1 := (b1.block w.heap.size (Array.getElem?_eq_some_iff.1 H0.out).1).trans H0.out
  have HR1 := Lib.hid hr1
  have HB1 := Lib.hid (HB0.out.trans (b1.mono HB0.out.size))
  have HZ1 : Hid (w.heap.size < w1.heap.size) := (Array.getElem?_eq_some_iff.1 hr1).1
  have HG4 : Hid (Gx (w1.alloc (.cells #[.slice none 0 0] 60)) w1.heap.size w1.heap.size []) := ⟨Nat.le_refl _, _, one_new w1 _, World.ownsRow_nil _ _ _ _⟩
  have HB4 := Lib.hid (HB1.out.alloc HB1.out.size (.cells #[.slice none 0 0] 60))
  have hr4 := (Below.heap_alloc w1 (.cells #[.slice none 0 0] 60) w.heap.size HZ1.out).trans hr1
  have HR4 := Lib.hid hr4
  clear b1 hr1 hr4 q0 q1 q2 q3 q4 q5 q6
  go_wp2_with fail
  obtain ⟨W4, hW4⟩ : ∃ W4, W4 = w1.alloc (.cells #[.slice none 0 0] 60) := ⟨_, rfl⟩
  have hG4 : Gx W4.drew w1.heap.size w1.heap.size [] := by rw [hW4]; exact HG4.out
  have hB4 : Below w.heap.size w W4.drew := by rw [hW4]; exact HB4.out.drew
  have hr4 : W4.drew.heap[w.heap.size]? = some (.cells #[.int .i64 1, .string st, .int .u64 (zu : Int), .slice A n c, .int .u64 (zo : Int), .int .u64 (zm : Int), .string sg] 35 (0, 0)) := by rw [hW4]; exact HR4.out
  rw [← hW4]
  have HG5 := Lib.hid hG4
  have HB5 := Lib.hid hB4
  have HR5 := Lib.hid hr4
  clear hG4 hB4 hr4 hW4
  refine wp_region_held (S := fun W : World => W.heap[w.heap.size]? = some (.cells #[.int .i64 1, .string st, .int .u64 (zu : Int), .slice A n c, .int .u64 (zo : Int), .int .u64 (zm : Int), .string sg] 35 (0, 0))) (by kernel_rfl) ?_
  refine h_take 0 (.pointer (some ⟨w.heap.size, 1, none⟩)) rfl (by kernel_rfl) (by kernel_rfl) (by kernel_rfl) (fun _ _ _ h => h) (by kernel_rfl) HR5.out (fun _ _ => by kernel_rfl) ?_
  refine h_take 1 (.string st) rfl (by kernel_rfl) (by kernel_rfl) (by kernel_rfl) (fun _ _ _ h => h) (by kernel_rfl) HR5.out (by intro W hW; have z := at_cell (i := 1) hW rfl; go_simp) ?_
  refine h_take 3 (.pointer (some ⟨w.heap.size, 2, none⟩)) rfl (by kernel_rfl) (by kernel_rfl) (by kernel_rfl) (fun _ _ _ h => h) (by kernel_rfl) HR5.out (fun _ _ => by kernel_rfl) ?_
  refine h_take 4 (.int .u64 (zu : Int)) rfl (by kernel_rfl) (by kernel_rfl) (by kernel_rfl) (fun _ _ _ h => h) (by kernel_rfl) HR5.out (by intro W hW; have z := at_cell (i := 2) hW rfl; go_simp) ?_
  refine h_take 6 (.pointer (some ⟨w.heap.size, 4, none⟩)) rfl (by kernel_rfl) (by kernel_rfl) (by kernel_rfl) (fun _ _ _ h => h) (by kernel_rfl) HR5.out (fun _ _ => by kernel_rfl) ?_
  refine h_take 7 (.int .u64 (zo : Int)) rfl (by kernel_rfl) (by kernel_rfl) (by kernel_rfl) (fun _ _ _ h => h) (by kernel_rfl) HR5.out (by intro W hW; have z := at_cell (i := 4) hW rfl; go_simp) ?_
  refine h_take 9 (.pointer (some ⟨w.heap.size, 5, none⟩)) rfl (by kernel_rfl) (by kernel_rfl) (by kernel_rfl) (fun _ _ _ h => h) (by kernel_rfl) HR5.out (fun _ _ => by kernel_rfl) ?_
  refine h_take 10 (.int .u64 (zm : Int)) rfl (by kernel_rfl) (by kernel_rfl) (by kernel_rfl) (fun _ _ _ h => h) (by kernel_rfl) HR5.out (by intro W hW; have z := at_cell (i := 5) hW rfl; go_simp) ?_
  refine h_take 12 (.pointer (some ⟨w.heap.size, 6, none⟩)) rfl (by kernel_rfl) (by kernel_rfl) (by kernel_rfl) (fun _ _ _ h => h) (by kernel_rfl) HR5.out (fun _ _ => by kernel_rfl) ?_
  refine h_take 13 (.string sg) rfl (by kernel_rfl) (by kernel_rfl) (by kernel_rfl) (fun _ _ _ h => h) (by kernel_rfl) HR5.out (by intro W hW; have z := at_cell (i := 6) hW rfl; go_simp) ?_
  refine h_one 2 rfl (by kernel_rfl) (by kernel_rfl) (fun K hK => ?_)
  go_simp
  refine (HPT.out _).mono ?_
  rintro e x6 ⟨rfl, b6⟩
  have HB6 := Lib.hid (HB5.out.trans (b6.mono HB5.out.size))
  have HG6 := Lib.hid (HG5.out.below b6)
  have hR6 := (b6.block w.heap.size (Array.getElem?_eq_some_iff.1 HR5.out).1).trans HR5.out
  have HR6 := Lib.hid hR6
  clear b6 hR6
  refine hK _ _ HR6.out ?_
  clear hK K
  refine h_one 5 rfl (by kernel_rfl) (by kernel_rfl) (fun K hK => ?_)
  go_simp
  refine (HXU.out _).mono ?_
  rintro e x7 ⟨rfl, b7⟩
  have HB7 := Lib.hid (HB6.out.trans (b7.mono HB6.out.size))
  have HG7 := Lib.hid (HG6.out.below b7)
  have hR7 := (b7.block w.heap.size (Array.getElem?_eq_some_iff.1 HR6.out).1).trans HR6.out
  have HR7 := Lib.hid hR7
  clear b7 hR7
  refine hK _ _ HR7.out ?_
  clear hK K
  refine h_one 8 rfl (by kernel_rfl) (by kernel_rfl) (fun K hK => ?_)
  go_simp
  refine (HXO.out _).mono ?_
  rintro e x8 ⟨rfl, b8⟩
  have HB8 := Lib.hid (HB7.out.trans (b8.mono HB7.out.size))
  have HG8 := Lib.hid (HG7.out.below b8)
  have hR8 := (b8.block w.heap.size (Array.getElem?_eq_some_iff.1 HR7.out).1).trans HR7.out
  have HR8 := Lib.hid hR8
  clear b8 hR8
  refine hK _ _ HR8.out ?_
  clear hK K
  refine h_one 11 rfl (by kernel_rfl) (by kernel_rfl) (fun K hK => ?_)
  go_simp
  refine (HFM.out _ (HP.out.below HB8.out)).mono ?_
  rintro e x9 ⟨rfl, b9⟩
  have HB9 := Lib.hid (HB8.out.trans (b9.mono HB8.out.size))
  have HG9 := Lib.hid (HG8.out.below b9)
  have hR9 := (b9.block w.heap.size (Array.getElem?_eq_some_iff.1 HR8.out).1).trans HR8.out
  have HR9 := Lib.hid hR9
  clear b9 hR9
  refine hK _ _ HR9.out ?_
  clear hK K
  refine h_one 14 rfl (by kernel_rfl) (by kernel_rfl) (fun K hK => ?_)
  go_simp
  refine (HPG.out _).mono ?_
  rintro e x10 ⟨rfl, b10⟩
  have HB10 := Lib.hid (HB9.out.trans (b10.mono HB9.out.size))
  have HG10 := Lib.hid (HG9.out.below b10)
  have hR10 := (b10.block w.heap.size (Array.getElem?_eq_some_iff.1 HR9.out).1).trans HR9.out
  have HR10 := Lib.hid hR10
  clear b10 hR10
  refine hK _ _ HR10.out ?_
  clear hK K
  refine h_one 15 rfl (by kernel_rfl) (by kernel_rfl) (fun K hK => ?_)
  go_simp
  have hR := (Below.heap_alloc x10 (.cells #[.string s1, .string s2, .string s3, .string s4, .string s5] 9) w.heap.size (Array.getElem?_eq_some_iff.1 HR10.out).1).trans HR10.out
  have HR11 := Lib.hid hR
  clear hR
  refine hK _ _ HR11.out ?_
  clear hK K
  have hrw := HRW.out x10
  rw [HW5L.out, HW5.out] at hrw
  have hrw2 : Reads (x10.alloc (.cells #[.string s1, .string s2, .string s3, .string s4, .string s5] 9)) (x10.alloc (.cells #[.string s1, .string s2, .string s3, .string s4, .string s5] 9)).heap.size 1 (some ⟨x10.heap.size, 0, none⟩) 5 (W5.map tsv) := by rw [World.size_alloc, HW5.out]; exact hrw
  have HRW2 := Lib.hid hrw2
  have HG11 := Lib.hid (HG10.out.below ((Below.refl x10.heap.size x10).alloc (Nat.le_refl _) (.cells #[.string s1, .string s2, .string s3, .string s4, .string s5] 9)))
  have HB11 := Lib.hid (HB10.out.alloc HB10.out.size (.cells #[.string s1, .string s2, .string s3, .string s4, .string s5] 9))
  clear hrw hrw2
  refine h_one 16 rfl (by kernel_rfl) (by kernel_rfl) (fun K hK => ?_)
  go_simp
  refine (wadd_any w1.heap.size w1.heap.size [] W5 _ 5 5 (by omega) (by simp) _ HG11.out (by simp) HRW2.out).mono ?_
  rintro e x12 ⟨rfl, hg12, hb12, _⟩
  have hR12 := (hb12.block w.heap.size HZ1.out).trans HR11.out
  have HR12 := Lib.hid hR12
  have HG12 := Lib.hid hg12
  have HB12 := Lib.hid (HB11.out.trans (hb12.mono (Nat.le_of_lt HZ1.out)))
  clear hR12 hg12 hb12
  refine hK _ _ HR12.out ?_
  clear hK K
  refine wpAnyH_done (by kernel_rfl) ?_ _
  go_simp
  have q3 := at_cell (i := 3) HR12.out rfl
  have HI12 : Hid (LnRel w w1.heap.size (.cells #[.int .i64 1, .string st, .int .u64 (zu : Int), .slice A n c, .int .u64 (zo : Int), .int .u64 (zm : Int), .string sg] 35 (0, 0)) w1.heap.size hws l (.int .i64 0) x12) := ⟨0, Nat.zero_le _, rfl, by rw [HWS.out]; simpa using HG12.out, HB12.out, HR12.out⟩
  clear HG12 HB12 HR12
  go_wp2
  clear q3
  go_loopw [35] (fun idx wr => LnRel w w1.heap.size (.cells #[.int .i64 1, .string st, .int .u64 (zu : Int), .slice A n c, .int .u64 (zo : Int), .int .u64 (zm : Int), .string sg] 35 (0, 0)) w1.heap.size hws l idx wr) (fun idx _ => n - (intOf idx).toNat)
  case atStart => exact HI12.out
  case round =>
    obtain ⟨i, hi, rfl, hgx, hb, hrec⟩ := hrel
    rw [HL.out] at hi
    have HGX := Lib.hid hgx
    have HBR := Lib.hid hb
    have HRC := Lib.hid hrec
    clear hgx hb hrec
    by_cases hlt : i < n
    · obtain ⟨x, hx⟩ : ∃ x, l[i]? = some x := ⟨_, List.getElem?_eq_getElem (by rw [HL.out]; exact hlt)⟩
      obtain ⟨ad, rfl, _, hcx⟩ := (H1.out.below HBR.out).2 (by omega)
      obtain ⟨y0, y1, y2⟩ := dps_at l i x hx
      have k0 := hcx _ _ y0
      have k1 := hcx _ _ y1
      have k2 := hcx _ _ y2
      rw [add_one] at k1
      rw [add_two] at k2
      have hxl := HS1.out x (List.mem_of_getElem? hx)
      have hxd := HDS.out x (List.mem_of_getElem? hx)
      have HSN : Hid ((l.take (i + 1)).flatMap depws = (l.take i).flatMap depws ++ depws x) := depws_snoc hx
      have HLN : Hid ((hws ++ (l.take i).flatMap depws).length ≤ 1000) := by
        show _ ≤ _
        rw [HWS.out, List.length_append, HW5L.out, depws_len, List.length_take, HL.out]
        omega
      obtain ⟨xn, xh, xo⟩ := x
      simp only at k0 k1 k2 hxl hxd
      have HPN := Lib.hid (fun W => eput_any xn (by omega) W)
      have HHS := Lib.hid (fun W => dhash_any xn xh xo hxd.1 hxd.2 W)
      have HDW : Hid (([eput xn, hashw ⟨xn, xh, xo⟩] : List (List UInt8)) = depws ⟨xn, xh, xo⟩) := by show _ = _; rfl
      have HRW3 := Lib.hid (fun W => reads_words W 9 [eput xn, hashw ⟨xn, xh, xo⟩])
      obtain ⟨V2, hV2⟩ : ∃ V2, V2 = [eput xn, hashw ⟨xn, xh, xo⟩] := ⟨_, rfl⟩
      have HV2 : Hid (V2.map tsv = [.string (tx (eput xn)), .string (tx (hashw ⟨xn, xh, xo⟩))]) := by show _ = _; rw [hV2]; rfl
      have HV2L : Hid (V2.length = 2) := by show _ = _; rw [hV2]; rfl
      rw [← hV2] at HRW3 HDW
      unfold rsv at k0
      generalize tx (eput xn) = p1 at *
      generalize tx (hashw ⟨xn, xh, xo⟩) = p2 at *
      generalize tx xn = sn at *
      have hi0 : (0 : Int) ≤ (i : Int) := by omega
      have hi1 : (i : Int) < (n : Int) := by omega
      have HBD := Lib.hid (HBR.out.alloc HBR.out.size (.cells #[.string sn, .int .u64 xh, .bool xo] 56))
      have HDN := Lib.hid (one_new wr (.cells #[.string sn, .int .u64 xh, .bool xo] 56))
      have HRD := Lib.hid ((Below.heap_alloc wr (.cells #[.string sn, .int .u64 xh, .bool xo] 56) w.heap.size (Array.getElem?_eq_some_iff.1 HRC.out).1).trans HRC.out)
      have HGD := Lib.hid (HGX.out.below ((Below.refl wr.heap.size wr).alloc (Nat.le_refl _) (.cells #[.string sn, .int .u64 xh, .bool xo] 56)))
      have HNE : Hid (wr.heap.size ≠ w1.heap.size) := by
        obtain ⟨_, v, h1, _⟩ := HGX.out
        have := (Array.getElem?_eq_some_iff.1 h1).1
        show _ ≠ _
        omega
      have HZR : Hid (w.heap.size ≠ w1.heap.size) := by have := HZ1.out; show _ ≠ _; omega
      clear hcx y0 y1 y2 hx hxl hxd hV2
      go_wp2_with fail
      obtain ⟨X0, hX0⟩ : ∃ X0, X0 = wr.alloc (.cells #[.string sn, .int .u64 xh, .bool xo] 56) := ⟨_, rfl⟩
      rw [← hX0] at HBD HDN HRD HGD
      rw [← hX0]
      have HB20 : Hid (Below w.heap.size w X0.drew) := HBD.out.drew
      have HD20 : Hid (X0.drew.heap[wr.heap.size]? = some (.cells #[.string sn, .int .u64 xh, .bool xo] 56 (0, 0))) := HDN.out
      have HR20 : Hid (X0.drew.heap[w.heap.size]? = some (.cells #[.int .i64 1, .string st, .int .u64 (zu : Int), .slice (some ad) n c, .int .u64 (zo : Int), .int .u64 (zm : Int), .string sg] 35 (0, 0))) := HRD.out
      have HG20 : Hid (Gx X0.drew w1.heap.size w1.heap.size (hws ++ (l.take i).flatMap depws)) := HGD.out
      clear hX0 HBD HDN HRD HGD k0 k1 k2
      refine wp_region_held (S := fun W : World => W.heap[wr.heap.size]? = some (.cells #[.string sn, .int .u64 xh, .bool xo] 56 (0, 0))) (by kernel_rfl) ?_
      refine h_take 0 (.pointer (some ⟨wr.heap.size, 0, none⟩)) rfl (by kernel_rfl) (by kernel_rfl) (by kernel_rfl) (fun _ _ _ h => h) (by kernel_rfl) HD20.out (fun _ _ => by kernel_rfl) ?_
      refine h_take 1 (.string sn) rfl (by kernel_rfl) (by kernel_rfl) (by kernel_rfl) (fun _ _ _ h => h) (by kernel_rfl) HD20.out (by intro W hW; have z0 := at_cell (i := 0) hW rfl; have z1 := at_cell (i := 1) hW rfl; have z2 := at_cell (i := 2) hW rfl; go_simp) ?_
      refine h_take 3 (.agg #[.string sn, .int .u64 xh, .bool xo]) rfl (by kernel_rfl) (by kernel_rfl) (by kernel_rfl) (fun _ _ _ h => h) (by kernel_rfl) HD20.out (by intro W hW; have z0 := at_cell (i := 0) hW rfl; have z1 := at_cell (i := 1) hW rfl; have z2 := at_cell (i := 2) hW rfl; go_simp) ?_
      refine h_one 2 rfl (by kernel_rfl) (by kernel_rfl) (fun K hK => ?_)
      go_simp
      refine (HPN.out _).mono ?_
      rintro e x21 ⟨rfl, b21⟩
      have HB21 := Lib.hid (HB20.out.trans (b21.mono HB20.out.size))
      have HG21 := Lib.hid (HG20.out.below b21)
      have HR21 := Lib.hid ((b21.block w.heap.size (Array.getElem?_eq_some_iff.1 HR20.out).1).trans HR20.out)
      have HD21 := Lib.hid ((b21.block wr.heap.size (Array.getElem?_eq_some_iff.1 HD20.out).1).trans HD20.out)
      clear b21
      refine hK _ _ HD21.out ?_
      clear hK K
      refine h_one 4 rfl (by kernel_rfl) (by kernel_rfl) (fun K hK => ?_)
      go_simp
      refine (HHS.out _).mono ?_
      rintro e x22 ⟨rfl, b22⟩
      have HB22 := Lib.hid (HB21.out.trans (b22.mono HB21.out.size))
      have HG22 := Lib.hid (HG21.out.below b22)
      have HR22 := Lib.hid ((b22.block w.heap.size (Array.getElem?_eq_some_iff.1 HR21.out).1).trans HR21.out)
      have HD22 := Lib.hid ((b22.block wr.heap.size (Array.getElem?_eq_some_iff.1 HD21.out).1).trans HD21.out)
      clear b22
      refine hK _ _ HD22.out ?_
      clear hK K
      refine h_one 5 rfl (by kernel_rfl) (by kernel_rfl) (fun K hK => ?_)
      go_simp
      have HR23 := Lib.hid ((Below.heap_alloc x22 (.cells #[.string p1, .string p2] 9) w.heap.size (Array.getElem?_eq_some_iff.1 HR22.out).1).trans HR22.out)
      have HD23 := Lib.hid ((Below.heap_alloc x22 (.cells #[.string p1, .string p2] 9) wr.heap.size (Array.getElem?_eq_some_iff.1 HD22.out).1).trans HD22.out)
      refine hK _ _ HD23.out ?_
      clear hK K
      have hrw := HRW3.out x22
      rw [HV2L.out, HV2.out] at hrw
      have hrw2 : Reads (x22.alloc (.cells #[.string p1, .string p2] 9)) (x22.alloc (.cells #[.string p1, .string p2] 9)).heap.size 1 (some ⟨x22.heap.size, 0, none⟩) 2 (V2.map tsv) := by rw [World.size_alloc, HV2.out]; exact hrw
      have HRW4 := Lib.hid hrw2
      have HG23 := Lib.hid (HG22.out.below ((Below.refl x22.heap.size x22).alloc (Nat.le_refl _) (.cells #[.string p1, .string p2] 9)))
      have HB23 := Lib.hid (HB22.out.alloc HB22.out.size (.cells #[.string p1, .string p2] 9))
      clear hrw hrw2
      refine h_one 6 rfl (by kernel_rfl) (by kernel_rfl) (fun K hK => ?_)
      go_simp
      refine (wadd_any w1.heap.size w1.heap.size _ V2 _ 2 2 (by omega) HLN.out _ HG23.out (by simp) HRW4.out).mono ?_
      rintro e x24 ⟨rfl, hg24, hb24, hk24⟩
      have HR24 := Lib.hid (hk24 _ _ _ _ HR23.out (by decide) HZR.out)
      have HD24 := Lib.hid (hk24 _ _ _ _ HD23.out (by decide) HNE.out)
      have HG24 := Lib.hid hg24
      have HB24 := Lib.hid (HB23.out.trans (hb24.mono (Nat.le_of_lt HZ1.out)))
      clear hk24 hg24 hb24
      refine hK _ _ HD24.out ?_
      clear hK K
      refine wpAnyH_done (by kernel_rfl) ?_ _
      go_simp
      go_wp2
      exact ⟨⟨i + 1, by rw [HL.out]; omega, by go_num, by rw [HSN.out, ← HDW.out, ← List.append_assoc]; exact HG24.out, HB24.out, HR24.out⟩, by simp [intOf]; omega⟩
    · obtain rfl : i = n := by omega
      have htk : l.take i = l := List.take_of_length_le (by rw [HL.out]; exact Nat.le_refl _)
      rw [htk] at HGX
      rw [← HLW.out] at HGX
      have hll : lws.length ≤ 125 := by
        rw [HLW.out, List.length_append, HWS.out, HW5L.out, depws_len, HL.out]
        omega
      have hjl := joinw_take lws HLL.out
      obtain ⟨h0, v, h1, h2⟩ := HGX.out
      obtain ⟨A3, c3, rfl, hA3⟩ := own_slice h2
      have z0 := at_cell (i := 0) h1 rfl
      have hj := ejoinL_any A3 lws.length c3 lws (own_cap h2) (by omega) (by omega) wr (Reads.of_own h2)
      rw [← HJL.out] at hj
      have HJ := Lib.hid hj
      clear hj
      generalize lws.length = nl at *
      clear h1 h2 htk
      go_wp2_with fail
      refine HJ.out.mono ?_
      rintro e x30 ⟨rfl, b30⟩
      have hb30 := HBR.out.trans (b30.mono HBR.out.size)
      clear b30
      go_wp2
      go_ret2
      exact ⟨rfl, hb30⟩

end Go.Proofs.YtgioknppnfencaaDoor

/- Of texts: a byte, a part. -/
namespace Go.Proofs.YtgioknppnfencaaDoor
open Go.RowKit

theorem tx_at (l : List UInt8) (i : Nat) (x : UInt8) (h : l[i]? = some x) (hp : i < (tx l).size) : ((tx l)[i]'hp).toNat = x.toNat := by
  obtain ⟨h1, h2⟩ := List.getElem?_eq_some_iff.1 h
  rw [← h2]
  rfl

theorem tx_extract (l : List UInt8) (a b : Nat) : (tx l).extract a b = tx ((l.take b).drop a) := by
  apply ByteArray.ext
  simp [tx, ByteArray.data_extract]
  rw [List.drop_take]

end Go.Proofs.YtgioknppnfencaaDoor

/- The document's signs of a byte, and its Put. -/
namespace Go.Proofs.YtgioknppnfencaaDoor
open Go.RowKit

set_option maxRecDepth 100000 in
set_option maxHeartbeats 1000000 in
theorem sign_self (n : Nat) (b : UInt8) (hn : b.toNat = n) (h1 : 33 ≤ n) (h2 : n ≤ 126) (h3 : n ≠ 92) (w : World) :
    Calls Tryd.prog 55 #[.int .u8 (n : Int), .bool false] w fun e w' => e = .returned (.string (tx [b])) ∧ Below w.heap.size w w' := by
  have k3 : ((n : Int) == 92) = false := by simp; omega
  have k4 : ((n : Int) != 92) = true := by simp; omega
  have hcv : (convert 39 9 (.slice (some ⟨w.heap.size, 0, none⟩) 1 1)).run Tryd.prog (w.alloc (.cells #[.int .u8 (n : Int)] 5)) = .ok (.string (tx [b])) (w.alloc (.cells #[.int .u8 (n : Int)] 5)) := by
    have h := reads_one w 5 b
    have e : bv b = .int .u8 (n : Int) := by unfold bv; rw [hn]
    rw [e] at h
    exact conv_reads Tryd.underlying39 Tryd.underlying5 Tryd.underlying9 h
  clear hn
  go_enter Tryd.func55, Tryd.ntmps55
  go_wp2
  go_ret
  exact ⟨rfl, (Below.refl _ _).alloc (Nat.le_refl _) _⟩

set_option maxRecDepth 100000 in
set_option maxHeartbeats 1000000 in
theorem sign_three (n : Nat) (all : Bool) (hn8 : n < 256) (h : all = true ∨ n < 33 ∨ 126 < n ∨ n = 92) (w : World) :
    Calls Tryd.prog 55 #[.int .u8 (n : Int), .bool all] w fun e w' => e = .returned (.string (tx [92, dig (n / 16), dig (n % 16)])) ∧ Below w.heap.size w w' := by
  have H : ∀ (Q : Exit → Act → World → Prop) (a : Act), True := fun _ _ => trivial
  clear H
  have hrd : Hid (∀ W : World, Reads (W.alloc (.cells #[.int .u8 92, .int .u8 ((dig (n / 16)).toNat : Int), .int .u8 ((dig (n % 16)).toNat : Int)] 5)) (W.heap.size + 1) 1 (some ⟨W.heap.size, 0, none⟩) 3 ([92, dig (n / 16), dig (n % 16)].map bv)) := fun W => reads_three W 5 92 (dig (n / 16)) (dig (n % 16))
  have hx : all = true ∨ (all = false ∧ n < 33) ∨ (all = false ∧ 33 ≤ n ∧ 126 < n) ∨ (all = false ∧ n = 92) := by
    cases all
    · rcases h with h | h | h | h
      · cases h
      · exact .inr (.inl ⟨rfl, h⟩)
      · exact .inr (.inr (.inl ⟨rfl, by omega, h⟩))
      · exact .inr (.inr (.inr ⟨rfl, h⟩))
    · exact .inl rfl
  clear h
  rcases hx with rfl | ⟨rfl, h⟩ | ⟨rfl, h, h5⟩ | ⟨rfl, rfl⟩
  · go_enter Tryd.func55, Tryd.ntmps55
    go_wp2
    refine wp_region_held (S := fun _ => True) (by kernel_rfl) ?_
    refine h_take 0 (.string { data := #[48, 49, 50, 51, 52, 53, 54, 55, 56, 57, 97, 98, 99, 100, 101, 102] }) rfl (by kernel_rfl) (by kernel_rfl) (by kernel_rfl) (fun _ _ _ h => h) (by kernel_rfl) trivial (fun _ _ => by kernel_rfl) ?_
    refine h_take 1 (.int .u8 (n : Int)) rfl (by kernel_rfl) (by kernel_rfl) (by kernel_rfl) (fun _ _ _ h => h) (by kernel_rfl) trivial (fun _ _ => by kernel_rfl) ?_
    refine h_take 2 (.int .u8 ((n / 16 : Nat) : Int)) rfl (by kernel_rfl) (by kernel_rfl) (by kernel_rfl) (fun _ _ _ h => h) (by kernel_rfl) trivial (by intro v hv; go_simp; exact wraps_u8 _ (by omega) (by omega)) ?_
    refine h_take 3 (.int .u8 ((dig (n / 16)).toNat : Int)) rfl (by kernel_rfl) (by kernel_rfl) (by kernel_rfl) (fun _ _ _ h => h) (by kernel_rfl) trivial (by intro v hv; go_simp; exact digs_ix _ _ (by omega) (by omega) _ _ _) ?_
    refine h_take 4 (.string { data := #[48, 49, 50, 51, 52, 53, 54, 55, 56, 57, 97, 98, 99, 100, 101, 102] }) rfl (by kernel_rfl) (by kernel_rfl) (by kernel_rfl) (fun _ _ _ h => h) (by kernel_rfl) trivial (fun _ _ => by kernel_rfl) ?_
    refine h_take 5 (.int .u8 (n : Int)) rfl (by kernel_rfl) (by kernel_rfl) (by kernel_rfl) (fun _ _ _ h => h) (by kernel_rfl) trivial (fun _ _ => by kernel_rfl) ?_
    refine h_take 6 (.int .u8 ((n % 16 : Nat) : Int)) rfl (by kernel_rfl) (by kernel_rfl) (by kernel_rfl) (fun _ _ _ h => h) (by kernel_rfl) trivial (by intro v hv; go_simp; exact Int.tmod_eq_emod_of_nonneg (by omega)) ?_
    refine h_take 7 (.int .u8 ((dig (n % 16)).toNat : Int)) rfl (by kernel_rfl) (by kernel_rfl) (by kernel_rfl) (fun _ _ _ h => h) (by kernel_rfl) trivial (by intro v hv; go_simp; exact digs_ix _ _ (by omega) (by omega) _ _ _) ?_
    refine h_one 8 rfl (by kernel_rfl) (by kernel_rfl) (fun K hK => ?_)
    go_simp
    refine hK _ _ trivial ?_
    clear hK K
    refine h_one 9 rfl (by kernel_rfl) (by kernel_rfl) (fun K hK => ?_)
    have hcv : (convert 39 9 (.slice (some ⟨w.heap.size, 0, none⟩) 3 3)).run Tryd.prog (w.alloc (.cells #[.int .u8 92, .int .u8 ((dig (n / 16)).toNat : Int), .int .u8 ((dig (n % 16)).toNat : Int)] 5)).drew = .ok (.string (tx [92, dig (n / 16), dig (n % 16)])) (w.alloc (.cells #[.int .u8 92, .int .u8 ((dig (n / 16)).toNat : Int), .int .u8 ((dig (n % 16)).toNat : Int)] 5)).drew := conv_reads (P := Tryd.prog) (src := 39) (dst := 9) (c := 3) Tryd.underlying39 Tryd.underlying5 Tryd.underlying9 (hrd.out w).drew
    go_simp
    refine hK _ _ trivial ?_
    clear hK K
    refine h_take 10 (.string (tx [92, dig (n / 16), dig (n % 16)])) rfl (by kernel_rfl) (by kernel_rfl) (by kernel_rfl) (fun _ _ _ h => h) (by kernel_rfl) trivial (fun _ _ => by kernel_rfl) ?_
    refine wpAnyH_done (by kernel_rfl) ?_ _
    go_simp
    go_wp2
    go_ret
    exact ⟨rfl, ((Below.refl _ w).alloc (Nat.le_refl _) _).drew⟩
  · go_enter Tryd.func55, Tryd.ntmps55
    go_wp2
    refine wp_region_held (S := fun _ => True) (by kernel_rfl) ?_
    refine h_take 0 (.string { data := #[48, 49, 50, 51, 52, 53, 54, 55, 56, 57, 97, 98, 99, 100, 101, 102] }) rfl (by kernel_rfl) (by kernel_rfl) (by kernel_rfl) (fun _ _ _ h => h) (by kernel_rfl) trivial (fun _ _ => by kernel_rfl) ?_
    refine h_take 1 (.int .u8 (n : Int)) rfl (by kernel_rfl) (by kernel_rfl) (by kernel_rfl) (fun _ _ _ h => h) (by kernel_rfl) trivial (fun _ _ => by kernel_rfl) ?_
    refine h_take 2 (.int .u8 ((n / 16 : Nat) : Int)) rfl (by kernel_rfl) (by kernel_rfl) (by kernel_rfl) (fun _ _ _ h => h) (by kernel_rfl) trivial (by intro v hv; go_simp; exact wraps_u8 _ (by omega) (by omega)) ?_
    refine h_take 3 (.int .u8 ((dig (n / 16)).toNat : Int)) rfl (by kernel_rfl) (by kernel_rfl) (by kernel_rfl) (fun _ _ _ h => h) (by kernel_rfl) trivial (by intro v hv; go_simp; exact digs_ix _ _ (by omega) (by omega) _ _ _) ?_
    refine h_take 4 (.string { data := #[48, 49, 50, 51, 52, 53, 54, 55, 56, 57, 97, 98, 99, 100, 101, 102] }) rfl (by kernel_rfl) (by kernel_rfl) (by kernel_rfl) (fun _ _ _ h => h) (by kernel_rfl) trivial (fun _ _ => by kernel_rfl) ?_
    refine h_take 5 (.int .u8 (n : Int)) rfl (by kernel_rfl) (by kernel_rfl) (by kernel_rfl) (fun _ _ _ h => h) (by kernel_rfl) trivial (fun _ _ => by kernel_rfl) ?_
    refine h_take 6 (.int .u8 ((n % 16 : Nat) : Int)) rfl (by kernel_rfl) (by kernel_rfl) (by kernel_rfl) (fun _ _ _ h => h) (by kernel_rfl) trivial (by intro v hv; go_simp; exact Int.tmod_eq_emod_of_nonneg (by omega)) ?_
    refine h_take 7 (.int .u8 ((dig (n % 16)).toNat : Int)) rfl (by kernel_rfl) (by kernel_rfl) (by kernel_rfl) (fun _ _ _ h => h) (by kernel_rfl) trivial (by intro v hv; go_simp; exact digs_ix _ _ (by omega) (by omega) _ _ _) ?_
    refine h_one 8 rfl (by kernel_rfl) (by kernel_rfl) (fun K hK => ?_)
    go_simp
    refine hK _ _ trivial ?_
    clear hK K
    refine h_one 9 rfl (by kernel_rfl) (by kernel_rfl) (fun K hK => ?_)
    have hcv : (convert 39 9 (.slice (some ⟨w.heap.size, 0, none⟩) 3 3)).run Tryd.prog (w.alloc (.cells #[.int .u8 92, .int .u8 ((dig (n / 16)).toNat : Int), .int .u8 ((dig (n % 16)).toNat : Int)] 5)).drew = .ok (.string (tx [92, dig (n / 16), dig (n % 16)])) (w.alloc (.cells #[.int .u8 92, .int .u8 ((dig (n / 16)).toNat : Int), .int .u8 ((dig (n % 16)).toNat : Int)] 5)).drew := conv_reads (P := Tryd.prog) (src := 39) (dst := 9) (c := 3) Tryd.underlying39 Tryd.underlying5 Tryd.underlying9 (hrd.out w).drew
    go_simp
    refine hK _ _ trivial ?_
    clear hK K
    refine h_take 10 (.string (tx [92, dig (n / 16), dig (n % 16)])) rfl (by kernel_rfl) (by kernel_rfl) (by kernel_rfl) (fun _ _ _ h => h) (by kernel_rfl) trivial (fun _ _ => by kernel_rfl) ?_
    refine wpAnyH_done (by kernel_rfl) ?_ _
    go_simp
    go_wp2
    go_ret
    exact ⟨rfl, ((Below.refl _ w).alloc (Nat.le_refl _) _).drew⟩
  · go_enter Tryd.func55, Tryd.ntmps55
    go_wp2
    refine wp_region_held (S := fun _ => True) (by kernel_rfl) ?_
    refine h_take 0 (.string { data := #[48, 49, 50, 51, 52, 53, 54, 55, 56, 57, 97, 98, 99, 100, 101, 102] }) rfl (by kernel_rfl) (by kernel_rfl) (by kernel_rfl) (fun _ _ _ h => h) (by kernel_rfl) trivial (fun _ _ => by kernel_rfl) ?_
    refine h_take 1 (.int .u8 (n : Int)) rfl (by kernel_rfl) (by kernel_rfl) (by kernel_rfl) (fun _ _ _ h => h) (by kernel_rfl) trivial (fun _ _ => by kernel_rfl) ?_
    refine h_take 2 (.int .u8 ((n / 16 : Nat) : Int)) rfl (by kernel_rfl) (by kernel_rfl) (by kernel_rfl) (fun _ _ _ h => h) (by kernel_rfl) trivial (by intro v hv; go_simp; exact wraps_u8 _ (by omega) (by omega)) ?_
    refine h_take 3 (.int .u8 ((dig (n / 16)).toNat : Int)) rfl (by kernel_rfl) (by kernel_rfl) (by kernel_rfl) (fun _ _ _ h => h) (by kernel_rfl) trivial (by intro v hv; go_simp; exact digs_ix _ _ (by omega) (by omega) _ _ _) ?_
    refine h_take 4 (.string { data := #[48, 49, 50, 51, 52, 53, 54, 55, 56, 57, 97, 98, 99, 100, 101, 102] }) rfl (by kernel_rfl) (by kernel_rfl) (by kernel_rfl) (fun _ _ _ h => h) (by kernel_rfl) trivial (fun _ _ => by kernel_rfl) ?_
    refine h_take 5 (.int .u8 (n : Int)) rfl (by kernel_rfl) (by kernel_rfl) (by kernel_rfl) (fun _ _ _ h => h) (by kernel_rfl) trivial (fun _ _ => by kernel_rfl) ?_
    refine h_take 6 (.int .u8 ((n % 16 : Nat) : Int)) rfl (by kernel_rfl) (by kernel_rfl) (by kernel_rfl) (fun _ _ _ h => h) (by kernel_rfl) trivial (by intro v hv; go_simp; exact Int.tmod_eq_emod_of_nonneg (by omega)) ?_
    refine h_take 7 (.int .u8 ((dig (n % 16)).toNat : Int)) rfl (by kernel_rfl) (by kernel_rfl) (by kernel_rfl) (fun _ _ _ h => h) (by kernel_rfl) trivial (by intro v hv; go_simp; exact digs_ix _ _ (by omega) (by omega) _ _ _) ?_
    refine h_one 8 rfl (by kernel_rfl) (by kernel_rfl) (fun K hK => ?_)
    go_simp
    refine hK _ _ trivial ?_
    clear hK K
    refine h_one 9 rfl (by kernel_rfl) (by kernel_rfl) (fun K hK => ?_)
    have hcv : (convert 39 9 (.slice (some ⟨w.heap.size, 0, none⟩) 3 3)).run Tryd.prog (w.alloc (.cells #[.int .u8 92, .int .u8 ((dig (n / 16)).toNat : Int), .int .u8 ((dig (n % 16)).toNat : Int)] 5)).drew = .ok (.string (tx [92, dig (n / 16), dig (n % 16)])) (w.alloc (.cells #[.int .u8 92, .int .u8 ((dig (n / 16)).toNat : Int), .int .u8 ((dig (n % 16)).toNat : Int)] 5)).drew := conv_reads (P := Tryd.prog) (src := 39) (dst := 9) (c := 3) Tryd.underlying39 Tryd.underlying5 Tryd.underlying9 (hrd.out w).drew
    go_simp
    refine hK _ _ trivial ?_
    clear hK K
    refine h_take 10 (.string (tx [92, dig (n / 16), dig (n % 16)])) rfl (by kernel_rfl) (by kernel_rfl) (by kernel_rfl) (fun _ _ _ h => h) (by kernel_rfl) trivial (fun _ _ => by kernel_rfl) ?_
    refine wpAnyH_done (by kernel_rfl) ?_ _
    go_simp
    go_wp2
    go_ret
    exact ⟨rfl, ((Below.refl _ w).alloc (Nat.le_refl _) _).drew⟩
  · go_enter Tryd.func55, Tryd.ntmps55
    go_wp2
    refine wp_region_held (S := fun _ => True) (by kernel_rfl) ?_
    refine h_take 0 (.string { data := #[48, 49, 50, 51, 52, 53, 54, 55, 56, 57, 97, 98, 99, 100, 101, 102] }) rfl (by kernel_rfl) (by kernel_rfl) (by kernel_rfl) (fun _ _ _ h => h) (by kernel_rfl) trivial (fun _ _ => by kernel_rfl) ?_
    refine h_take 1 (.int .u8 92) rfl (by kernel_rfl) (by kernel_rfl) (by kernel_rfl) (fun _ _ _ h => h) (by kernel_rfl) trivial (fun _ _ => by kernel_rfl) ?_
    refine h_take 2 (.int .u8 5) rfl (by kernel_rfl) (by kernel_rfl) (by kernel_rfl) (fun _ _ _ h => h) (by kernel_rfl) trivial (fun _ _ => by kernel_rfl) ?_
    refine h_take 3 (.int .u8 53) rfl (by kernel_rfl) (by kernel_rfl) (by kernel_rfl) (fun _ _ _ h => h) (by kernel_rfl) trivial (fun _ _ => by kernel_rfl) ?_
    refine h_take 4 (.string { data := #[48, 49, 50, 51, 52, 53, 54, 55, 56, 57, 97, 98, 99, 100, 101, 102] }) rfl (by kernel_rfl) (by kernel_rfl) (by kernel_rfl) (fun _ _ _ h => h) (by kernel_rfl) trivial (fun _ _ => by kernel_rfl) ?_
    refine h_take 5 (.int .u8 92) rfl (by kernel_rfl) (by kernel_rfl) (by kernel_rfl) (fun _ _ _ h => h) (by kernel_rfl) trivial (fun _ _ => by kernel_rfl) ?_
    refine h_take 6 (.int .u8 12) rfl (by kernel_rfl) (by kernel_rfl) (by kernel_rfl) (fun _ _ _ h => h) (by kernel_rfl) trivial (fun _ _ => by kernel_rfl) ?_
    refine h_take 7 (.int .u8 99) rfl (by kernel_rfl) (by kernel_rfl) (by kernel_rfl) (fun _ _ _ h => h) (by kernel_rfl) trivial (fun _ _ => by kernel_rfl) ?_
    refine h_one 8 rfl (by kernel_rfl) (by kernel_rfl) (fun K hK => ?_)
    go_simp
    refine hK _ _ trivial ?_
    clear hK K
    refine h_one 9 rfl (by kernel_rfl) (by kernel_rfl) (fun K hK => ?_)
    have hcv : (convert 39 9 (.slice (some ⟨w.heap.size, 0, none⟩) 3 3)).run Tryd.prog (w.alloc (.cells #[.int .u8 92, .int .u8 53, .int .u8 99] 5)).drew = .ok (.string (tx [92, dig (92 / 16), dig (92 % 16)])) (w.alloc (.cells #[.int .u8 92, .int .u8 53, .int .u8 99] 5)).drew := conv_reads (P := Tryd.prog) (src := 39) (dst := 9) (c := 3) Tryd.underlying39 Tryd.underlying5 Tryd.underlying9 (hrd.out w).drew
    go_simp
    refine hK _ _ trivial ?_
    clear hK K
    refine h_take 10 (.string (tx [92, dig (92 / 16), dig (92 % 16)])) rfl (by kernel_rfl) (by kernel_rfl) (by kernel_rfl) (fun _ _ _ h => h) (by kernel_rfl) trivial (fun _ _ => by kernel_rfl) ?_
    refine wpAnyH_done (by kernel_rfl) ?_ _
    go_simp
    go_wp2
    go_ret
    exact ⟨rfl, ((Below.refl _ w).alloc (Nat.le_refl _) _).drew⟩

theorem sign_any (b : UInt8) (all : Bool) (w : World) :
    Calls Tryd.prog 55 #[.int .u8 (b.toNat : Int), .bool all] w fun e w' => e = .returned (.string (tx (sgn all b))) ∧ Below w.heap.size w w' := by
  have h8 := b.toNat_lt
  by_cases h : all = false ∧ okb b = true
  · obtain ⟨rfl, hok⟩ := h
    rw [sgn_self hok]
    have := of_decide_eq_true hok
    exact sign_self _ b rfl this.1 this.2.1 this.2.2 w
  · rw [sgn_three h]
    refine sign_three _ all (by omega) ?_ w
    cases all
    · have h2 : ¬ okb b = true := fun h3 => h ⟨rfl, h3⟩
      have h4 : ¬ (33 ≤ b.toNat ∧ b.toNat ≤ 126 ∧ b.toNat ≠ 92) := fun h5 => h2 (decide_eq_true h5)
      omega
    · exact .inl rfl

end Go.Proofs.YtgioknppnfencaaDoor

/- The document's Put of a text. -/
namespace Go.Proofs.YtgioknppnfencaaDoor
open Go.RowKit

theorem slice_str (s : ByteArray) (k m n : Nat) (hs : s.size = n) (h : k + m ≤ n) (W : World) : (Instr.slice 9 (.string s) (some (.int .i64 (k : Int))) (some (.int .i64 ((k : Int) + (m : Int)))) none).run Tryd.prog W = .ok (.string (s.extract k (k + m))) W := by
  have h1 := run_slice_string (P := Tryd.prog) W 9 s .i64 .i64 (k : Int) ((k : Int) + (m : Int)) Tryd.underlying9 (by omega) (by omega) (by omega)
  rw [show (k : Int).toNat = k from by omega, show ((k : Int) + (m : Int)).toNat = k + m from by omega] at h1
  exact h1

def PRel (all : Bool) (l : List UInt8) (w : World) (v3 v4 : Value) (wr : World) : Prop :=
  ∃ i : Nat, i ≤ l.length ∧ v4 = .int .i64 (i : Int) ∧ v3 = .string (tx ((l.take i).flatMap (sgn all))) ∧ Below w.heap.size w wr

set_option maxRecDepth 100000 in
set_option maxHeartbeats 1000000 in
theorem rput_any (l : List UInt8) (hl : l.length ≤ 1000) (w : World) :
    Calls Tryd.prog 39 #[.string (tx l)] w fun e w' => e = .returned (.string (tx (eput l))) ∧ Below w.heap.size w w' := by
  by_cases h0 : l = []
  · subst h0
    have h1 : (tx []).toList.isEmpty = true := by rw [emp_bytes]; decide
    go_enter Tryd.func39, Tryd.ntmps39
    go_wp2
    go_ret
    exact ⟨rfl, Below.refl _ _⟩
  · have h1 : (tx l).toList.isEmpty = false := by rw [emp_bytes, decide_eq_false h0]
    obtain ⟨all, hall⟩ : ∃ all, all = decide (l = [45]) := ⟨_, rfl⟩
    have hall2 : ((tx l).toList == [45]) = all := by rw [eq_bytes, hall]
    have hfin : eput l = l.flatMap (sgn all) := by unfold eput; rw [if_neg h0, hall]
    have H0 : Hid (PRel all l w (.string { data := #[] }) (.int .i64 0) w) := ⟨0, by omega, rfl, rfl, Below.refl _ _⟩
    rw [hfin]
    obtain ⟨n, hn⟩ : ∃ n, n = l.length := ⟨_, rfl⟩
    have hsz : (tx l).size = n := by rw [tx_size, hn]
    have HN := Lib.hid hn
    have HAT := Lib.hid (fun i x h hp => tx_at l i x h hp)
    rw [← hn] at hl
    generalize hs : tx l = s at *
    clear hs hfin h0 hall hn
    go_enter Tryd.func39, Tryd.ntmps39
    go_wp2
    go_loopw [3, 4] (fun v3 v4 wr => PRel all l w v3 v4 wr) (fun _ v4 _ => n - (intOf v4).toNat)
    case atStart => exact H0.out
    case round =>
      obtain ⟨i, hi, rfl, rfl, hb⟩ := hrel
      clear H0
      rw [← HN.out] at hi
      have HB := Lib.hid hb
      by_cases hlt : i < n
      · obtain ⟨b, hbi⟩ : ∃ b, l[i]? = some b := ⟨_, List.getElem?_eq_getElem (by rw [← HN.out]; exact hlt)⟩
        have hk : i < s.size := by omega
        have hat := HAT.out i b hbi hk
        have hsn := flat_snoc (all := all) hbi
        have hl3 := flat_len3 all (l.take i)
        rw [List.length_take] at hl3
        have hsl := sgn_len all b
        have hadd := fun W : World => add_tx (P := Tryd.prog) W ((l.take i).flatMap (sgn all)) (sgn all b) (by omega)
        rw [← hsn] at hadd
        have HSG := Lib.hid (fun W => sign_any b all W)
        generalize sgn all b = g at *
        generalize hfa : (l.take i).flatMap (sgn all) = fa at *
        have hi0 : (0 : Int) ≤ (i : Int) := by omega
        have hi1 : (i : Int) < (n : Int) := by omega
        clear hsn hl3 hsl hbi hb HAT hfa
        have HX : Hid ((s[i].toNat : Int) = (b.toNat : Int)) := congrArg Int.ofNat hat
        clear hat
        go_wp2_with fail
        rw [HX.out]
        refine (HSG.out _).mono ?_
        rintro e w3 ⟨rfl, hb3⟩
        have HB3 := Lib.hid (HB.out.trans (hb3.mono HB.out.size))
        clear hb3
        go_wp2
        exact ⟨⟨i + 1, by rw [← HN.out]; omega, by go_num, rfl, HB3.out⟩, by simp [intOf]; omega⟩
      · obtain rfl : i = n := by omega
        rw [List.take_of_length_le (by rw [← HN.out]; omega)]
        obtain ⟨fa, hfa⟩ : ∃ fa, fa = l.flatMap (sgn all) := ⟨_, rfl⟩
        rw [← hfa]
        have HFA := Lib.hid hfa
        clear hb hfa
        go_wp2
        go_ret
        exact ⟨by rw [← HFA.out]; rfl, HB.out⟩

end Go.Proofs.YtgioknppnfencaaDoor

/- The document's Line of what has one. -/
namespace Go.Proofs.YtgioknppnfencaaDoor
open Go.RowKit

theorem head_join (t g : List UInt8) (zu zo zm : Nat) : joinw (headws t zu zo zm g) = eput t ++ [32] ++ hexl zu 16 ++ [32] ++ hexl zo 16 ++ [32] ++ Lib.decDigits zm ++ [32] ++ eput g := by
  unfold headws
  rw [joinw_cons _ _ (by simp), joinw_cons _ _ (by simp), joinw_cons _ _ (by simp), joinw_cons _ _ (by simp), joinw_one]
  simp
theorem step_join {ws : List (List UInt8)} (h : ws ≠ []) (d : Dp) : joinw (ws ++ depws d) = joinw ws ++ [32] ++ eput d.name ++ [32] ++ hashw d := by
  unfold depws
  rw [show ws ++ [eput d.name, hashw d] = (ws ++ [eput d.name]) ++ [hashw d] by simp, joinw_snoc _ _ (by simp), joinw_snoc _ _ h]
  simp
theorem linews_take {t g : List UInt8} {zu zo zm i : Nat} {l : List Dp} (h : ∀ x ∈ linews t zu zo zm g l, x.length ≤ 2000) (hl : l.length ≤ 60) : (joinw (headws t zu zo zm g ++ (l.take i).flatMap depws)).length ≤ 260000 := by
  have h1 := joinw_take (headws t zu zo zm g ++ (l.take i).flatMap depws) (fun x hx => by
    rcases List.mem_append.1 hx with hx | hx
    · exact h x (List.mem_append.2 (.inl hx))
    · obtain ⟨d, hd, hx⟩ := List.mem_flatMap.1 hx
      exact h x (List.mem_append.2 (.inr (List.mem_flatMap.2 ⟨d, List.mem_of_mem_take hd, hx⟩))))
  rw [List.length_append, depws_len, List.length_take, show (headws t zu zo zm g).length = 5 from rfl] at h1
  omega

def DlRel (w : World) (o : Obj) (hd : List (List UInt8)) (l : List Dp) (v4 v5 : Value) (wr : World) : Prop :=
  ∃ i : Nat, i ≤ l.length ∧ v5 = .int .i64 (i : Int) ∧ v4 = .string (tx (joinw (hd ++ (l.take i).flatMap depws))) ∧ Below w.heap.size w wr ∧ wr.heap[w.heap.size]? = some o

set_option maxRecDepth 100000 in
set_option maxHeartbeats 2000000 in
theorem rline_ok (zu zo zm : Nat) (t g : List UInt8) (A : Option Addr) (n c : Nat) (l : List Dp) (hu : zu < 18446744073709551616) (ho : zo < 18446744073709551616) (hm : zm < 18446744073709551616) (hds : ∀ d ∈ l, 0 ≤ d.hash ∧ d.hash < 18446744073709551616)
    (hmay : MayP 3 ⟨1, t, (zu : Int), (zo : Int), (zm : Int), g⟩ l) (hfit : Fits ⟨1, t, (zu : Int), (zo : Int), (zm : Int), g⟩ l) (hsm : small ⟨1, t, (zu : Int), (zo : Int), (zm : Int), g⟩ l) (w : World) (h : Reads w w.heap.size 3 A n (dps l)) :
    Calls Tryd.prog 22 #[.agg #[.int .i64 1, .string (tx t), .int .u64 (zu : Int), .slice A n c, .int .u64 (zo : Int), .int .u64 (zm : Int), .string (tx g)]] w fun e w' => e = .returned (.tuple #[.string (tx (joinw (linews t zu zo zm g l))), .int .i64 0]) ∧ Below w.heap.size w w' := by
  have HL : Hid (l.length = n) := by have := h.1; rw [dps_len] at this; show _ = _; omega
  obtain ⟨hs1, hs2, hs3, hs4⟩ := hsm
  simp only at hs3 hs4
  have hn60 : n ≤ 60 := by rw [← HL.out]; exact hs2
  have H1 := Lib.hid h
  have HS1 := Lib.hid hs1
  have HDS := Lib.hid hds
  have H0 := Lib.hid (one_new w (.cells #[.int .i64 1, .string (tx t), .int .u64 (zu : Int), .slice A n c, .int .u64 (zo : Int), .int .u64 (zm : Int), .string (tx g)] 35))
  have HB0 := Lib.hid ((Below.refl w.heap.size w).alloc (Nat.le_refl _) (.cells #[.int .i64 1, .string (tx t), .int .u64 (zu : Int), .slice A n c, .int .u64 (zo : Int), .int .u64 (zm : Int), .string (tx g)] 35))
  have HMAY : Hid (∀ W, Below w.heap.size w W → Calls Tryd.prog 38 #[.int .i64 3, .agg #[.int .i64 1, .string (tx t), .int .u64 (zu : Int), .slice A n c, .int .u64 (zo : Int), .int .u64 (zm : Int), .string (tx g)]] W fun e w' => e = .returned (.bool true) ∧ Below W.heap.size W w') := fun W hW =>
    (rmay_any 3 ⟨1, t, (zu : Int), (zo : Int), (zm : Int), g⟩ A n c l (by omega) hfit W ((H1.out.below hW).more hW.size)).mono fun e w' ⟨ht, hb⟩ => ⟨ht.yes hmay, hb⟩
  have p1 := eput_len t
  have p2 := eput_len g
  have p3 := dec_len hm
  have p4 := hexl_len zu 16
  have p5 := hexl_len zo 16
  have HPT := Lib.hid (fun W => rput_any t (by omega) W)
  have HPG := Lib.hid (fun W => rput_any g (by omega) W)
  have hxs : ∀ z : Nat, z < 18446744073709551616 → ∀ W, Calls Tryd.prog 40 #[.int .u64 (z : Int)] W fun e w' => e = .returned (.string (tx (hexl z 16))) ∧ W = w' := fun z hz W => by
    have h := refhex_any (BitVec.ofNat 64 z) W
    rw [qv_ofNat (show z < top by unfold top; omega), BitVec.toNat_ofNat, Nat.mod_eq_of_lt (show z < 2 ^ 64 by omega)] at h
    exact h
  have HXU := Lib.hid (hxs zu hu)
  have HXO := Lib.hid (hxs zo ho)
  have HFM := Lib.hid (fun W => digits_any zm hm W)
  have HHX := Lib.hid hxs
  have HLL := Lib.hid (fun i => linews_take (i := i) (linews_len (zu := zu) (zo := zo) hm hs3 hs4 hs1) hs2)
  have HLW : Hid (linews t zu zo zm g l = headws t zu zo zm g ++ l.flatMap depws) := by show _ = _; rfl
  have HJ0 := Lib.hid (head_join t g zu zo zm)
  have HNE : Hid (∀ x : List (List UInt8), headws t zu zo zm g ++ x ≠ []) := fun x e => by simp [headws] at e
  have a1 : ∀ W : World, (Op.stringOp .add (tx (eput t)) ({ data := #[32] })).run Tryd.prog W = .ok (.string (tx (eput t ++ [32]))) W := fun W => add_tx W (eput t) ([32]) (by simp; omega)
  have a2 : ∀ W : World, (Op.stringOp .add (tx (eput t ++ [32])) (tx (hexl zu 16))).run Tryd.prog W = .ok (.string (tx (eput t ++ [32] ++ hexl zu 16))) W := fun W => add_tx W (eput t ++ [32]) (hexl zu 16) (by simp [p4]; omega)
  have a3 : ∀ W : World, (Op.stringOp .add (tx (eput t ++ [32] ++ hexl zu 16)) ({ data := #[32] })).run Tryd.prog W = .ok (.string (tx (eput t ++ [32] ++ hexl zu 16 ++ [32]))) W := fun W => add_tx W (eput t ++ [32] ++ hexl zu 16) ([32]) (by simp [p4]; omega)
  have a4 : ∀ W : World, (Op.stringOp .add (tx (eput t ++ [32] ++ hexl zu 16 ++ [32])) (tx (hexl zo 16))).run Tryd.prog W = .ok (.string (tx (eput t ++ [32] ++ hexl zu 16 ++ [32] ++ hexl zo 16))) W := fun W => add_tx W (eput t ++ [32] ++ hexl zu 16 ++ [32]) (hexl zo 16) (by simp [p4, p5]; omega)
  have a5 : ∀ W : World, (Op.stringOp .add (tx (eput t ++ [32] ++ hexl zu 16 ++ [32] ++ hexl zo 16)) ({ data := #[32] })).run Tryd.prog W = .ok (.string (tx (eput t ++ [32] ++ hexl zu 16 ++ [32] ++ hexl zo 16 ++ [32]))) W := fun W => add_tx W (eput t ++ [32] ++ hexl zu 16 ++ [32] ++ hexl zo 16) ([32]) (by simp [p4, p5]; omega)
  have a6 : ∀ W : World, (Op.stringOp .add (tx (eput t ++ [32] ++ hexl zu 16 ++ [32] ++ hexl zo 16 ++ [32])) (tx (Lib.decDigits zm))).run Tryd.prog W = .ok (.string (tx (eput t ++ [32] ++ hexl zu 16 ++ [32] ++ hexl zo 16 ++ [32] ++ Lib.decDigits zm))) W := fun W => add_tx W (eput t ++ [32] ++ hexl zu 16 ++ [32] ++ hexl zo 16 ++ [32]) (Lib.decDigits zm) (by simp [p4, p5]; omega)
  have a7 : ∀ W : World, (Op.stringOp .add (tx (eput t ++ [32] ++ hexl zu 16 ++ [32] ++ hexl zo 16 ++ [32] ++ Lib.decDigits zm)) ({ data := #[32] })).run Tryd.prog W = .ok (.string (tx (eput t ++ [32] ++ hexl zu 16 ++ [32] ++ hexl zo 16 ++ [32] ++ Lib.decDigits zm ++ [32]))) W := fun W => add_tx W (eput t ++ [32] ++ hexl zu 16 ++ [32] ++ hexl zo 16 ++ [32] ++ Lib.decDigits zm) ([32]) (by simp [p4, p5]; omega)
  have a8 : ∀ W : World, (Op.stringOp .add (tx (eput t ++ [32] ++ hexl zu 16 ++ [32] ++ hexl zo 16 ++ [32] ++ Lib.decDigits zm ++ [32])) (tx (eput g))).run Tryd.prog W = .ok (.string (tx (eput t ++ [32] ++ hexl zu 16 ++ [32] ++ hexl zo 16 ++ [32] ++ Lib.decDigits zm ++ [32] ++ eput g))) W := fun W => add_tx W (eput t ++ [32] ++ hexl zu 16 ++ [32] ++ hexl zo 16 ++ [32] ++ Lib.decDigits zm ++ [32]) (eput g) (by simp [p4, p5]; omega)
  rw [HJ0.out.symm] at a8
  have HT0 : Hid (tx (joinw (headws t zu zo zm g ++ (l.take 0).flatMap depws)) = tx (joinw (headws t zu zo zm g))) := by show _ = _; simp
  clear p1 p2 p3 p4 p5
  generalize tx (eput t ++ [32] ++ hexl zu 16 ++ [32] ++ hexl zo 16 ++ [32] ++ Lib.decDigits zm ++ [32]) = b7 at *
  generalize tx (eput t ++ [32] ++ hexl zu 16 ++ [32] ++ hexl zo 16 ++ [32] ++ Lib.decDigits zm) = b6 at *
  generalize tx (eput t ++ [32] ++ hexl zu 16 ++ [32] ++ hexl zo 16 ++ [32]) = b5 at *
  generalize tx (eput t ++ [32] ++ hexl zu 16 ++ [32] ++ hexl zo 16) = b4 at *
  generalize tx (eput t ++ [32] ++ hexl zu 16 ++ [32]) = b3 at *
  generalize tx (eput t ++ [32] ++ hexl zu 16) = b2 at *
  generalize tx (eput t ++ [32]) = b1 at *
  generalize tx (joinw (headws t zu zo zm g)) = b8 at *
  generalize tx (eput t) = s1 at *
  generalize tx (hexl zu 16) = s2 at HXU a1 a2 a3 a4 a5 a6 a7 a8
  generalize tx (hexl zo 16) = s3 at HXO a1 a2 a3 a4 a5 a6 a7 a8
  generalize tx (Lib.decDigits zm) = s4 at *
  generalize tx (eput g) = s5 at *
  generalize linews t zu zo zm g l = lws at *
  generalize headws t zu zo zm g = hws at *
  generalize tx t = st at *
  generalize tx g = sg at *
  obtain ⟨jl, hjl0⟩ : ∃ jl, jl = tx (joinw lws) := ⟨_, rfl⟩
  rw [← hjl0]
  have HJL := Lib.hid hjl0
  clear hjl0
  have q0 := at_cell (i := 0) H0.out rfl
  have q1 := at_cell (i := 1) H0.out rfl
  have q2 := at_cell (i := 2) H0.out rfl
  have q3 := at_cell (i := 3) H0.out rfl
  have q4 := at_cell (i := 4) H0.out rfl
  have q5 := at_cell (i := 5) H0.out rfl
  have q6 := at_cell (i := 6) H0.out rfl
  clear h hds hs1 hs2 hs3 hs4 hmay hfit hxs
  go_enter Tryd.func22, Tryd.ntmps22
  go_wp2_with fail
  refine (HMAY.out _ HB0.out).mono ?_
  rintro e w1 ⟨rfl, b1⟩
  have hr1 := (b1.block w.heap.size (Array.getElem?_eq_some_iff.1 H0.out).1).trans H0.out
  have HR5 : Hid (w1.drew.heap[w.heap.size]? = some (.cells #[.int .i64 1, .string st, .int .u64 (zu : Int), .slice A n c, .int .u64 (zo : Int), .int .u64 (zm : Int), .string sg] 35 (0, 0))) := hr1
  have HB5 : Hid (Below w.heap.size w w1.drew) := (HB0.out.trans (b1.mono HB0.out.size)).drew
  clear b1 hr1 q0 q1 q2 q3 q4 q5 q6
  go_wp2_with fail
  refine wp_region_held (S := fun W : World => W.heap[w.heap.size]? = some (.cells #[.int .i64 1, .string st, .int .u64 (zu : Int), .slice A n c, .int .u64 (zo : Int), .int .u64 (zm : Int), .string sg] 35 (0, 0))) (by kernel_rfl) ?_
  refine h_take 0 (.pointer (some ⟨w.heap.size, 1, none⟩)) rfl (by kernel_rfl) (by kernel_rfl) (by kernel_rfl) (fun _ _ _ h => h) (by kernel_rfl) HR5.out (fun _ _ => by kernel_rfl) ?_
  refine h_take 1 (.string st) rfl (by kernel_rfl) (by kernel_rfl) (by kernel_rfl) (fun _ _ _ h => h) (by kernel_rfl) HR5.out (by intro W hW; have z := at_cell (i := 1) hW rfl; go_simp) ?_
  refine h_take 4 (.pointer (some ⟨w.heap.size, 2, none⟩)) rfl (by kernel_rfl) (by kernel_rfl) (by kernel_rfl) (fun _ _ _ h => h) (by kernel_rfl) HR5.out (fun _ _ => by kernel_rfl) ?_
  refine h_take 5 (.int .u64 (zu : Int)) rfl (by kernel_rfl) (by kernel_rfl) (by kernel_rfl) (fun _ _ _ h => h) (by kernel_rfl) HR5.out (by intro W hW; have z := at_cell (i := 2) hW rfl; go_simp) ?_
  refine h_take 9 (.pointer (some ⟨w.heap.size, 4, none⟩)) rfl (by kernel_rfl) (by kernel_rfl) (by kernel_rfl) (fun _ _ _ h => h) (by kernel_rfl) HR5.out (fun _ _ => by kernel_rfl) ?_
  refine h_take 10 (.int .u64 (zo : Int)) rfl (by kernel_rfl) (by kernel_rfl) (by kernel_rfl) (fun _ _ _ h => h) (by kernel_rfl) HR5.out (by intro W hW; have z := at_cell (i := 4) hW rfl; go_simp) ?_
  refine h_take 14 (.pointer (some ⟨w.heap.size, 5, none⟩)) rfl (by kernel_rfl) (by kernel_rfl) (by kernel_rfl) (fun _ _ _ h => h) (by kernel_rfl) HR5.out (fun _ _ => by kernel_rfl) ?_
  refine h_take 15 (.int .u64 (zm : Int)) rfl (by kernel_rfl) (by kernel_rfl) (by kernel_rfl) (fun _ _ _ h => h) (by kernel_rfl) HR5.out (by intro W hW; have z := at_cell (i := 5) hW rfl; go_simp) ?_
  refine h_take 19 (.pointer (some ⟨w.heap.size, 6, none⟩)) rfl (by kernel_rfl) (by kernel_rfl) (by kernel_rfl) (fun _ _ _ h => h) (by kernel_rfl) HR5.out (fun _ _ => by kernel_rfl) ?_
  refine h_take 20 (.string sg) rfl (by kernel_rfl) (by kernel_rfl) (by kernel_rfl) (fun _ _ _ h => h) (by kernel_rfl) HR5.out (by intro W hW; have z := at_cell (i := 6) hW rfl; go_simp) ?_
  refine h_one 2 rfl (by kernel_rfl) (by kernel_rfl) (fun K hK => ?_)
  go_simp
  refine (HPT.out _).mono ?_
  rintro e x6 ⟨rfl, b6⟩
  have HB6 := Lib.hid (HB5.out.trans (b6.mono HB5.out.size))
  have HR6 := Lib.hid ((b6.block w.heap.size (Array.getElem?_eq_some_iff.1 HR5.out).1).trans HR5.out)
  clear b6
  refine hK _ _ HR6.out ?_
  clear hK K
  refine h_take 3 (.string b1) rfl (by kernel_rfl) (by kernel_rfl) (by kernel_rfl) (fun _ _ _ h => h) (by kernel_rfl) HR6.out (by intro v hv; go_simp) ?_
  refine h_one 6 rfl (by kernel_rfl) (by kernel_rfl) (fun K hK => ?_)
  go_simp
  refine (HXU.out _).mono ?_
  rintro e wx ⟨rfl, rfl⟩
  refine hK _ _ HR6.out ?_
  clear hK K
  refine h_take 7 (.string b2) rfl (by kernel_rfl) (by kernel_rfl) (by kernel_rfl) (fun _ _ _ h => h) (by kernel_rfl) HR6.out (by intro v hv; go_simp) ?_
  refine h_take 8 (.string b3) rfl (by kernel_rfl) (by kernel_rfl) (by kernel_rfl) (fun _ _ _ h => h) (by kernel_rfl) HR6.out (by intro v hv; go_simp) ?_
  refine h_one 11 rfl (by kernel_rfl) (by kernel_rfl) (fun K hK => ?_)
  go_simp
  refine (HXO.out _).mono ?_
  rintro e wx ⟨rfl, rfl⟩
  refine hK _ _ HR6.out ?_
  clear hK K
  refine h_take 12 (.string b4) rfl (by kernel_rfl) (by kernel_rfl) (by kernel_rfl) (fun _ _ _ h => h) (by kernel_rfl) HR6.out (by intro v hv; go_simp) ?_
  refine h_take 13 (.string b5) rfl (by kernel_rfl) (by kernel_rfl) (by kernel_rfl) (fun _ _ _ h => h) (by kernel_rfl) HR6.out (by intro v hv; go_simp) ?_
  refine h_one 16 rfl (by kernel_rfl) (by kernel_rfl) (fun K hK => ?_)
  go_simp
  refine (HFM.out _).mono ?_
  rintro e wx ⟨rfl, rfl⟩
  refine hK _ _ HR6.out ?_
  clear hK K
  refine h_take 17 (.string b6) rfl (by kernel_rfl) (by kernel_rfl) (by kernel_rfl) (fun _ _ _ h => h) (by kernel_rfl) HR6.out (by intro v hv; go_simp) ?_
  refine h_take 18 (.string b7) rfl (by kernel_rfl) (by kernel_rfl) (by kernel_rfl) (fun _ _ _ h => h) (by kernel_rfl) HR6.out (by intro v hv; go_simp) ?_
  refine h_one 21 rfl (by kernel_rfl) (by kernel_rfl) (fun K hK => ?_)
  go_simp
  refine (HPG.out _).mono ?_
  rintro e x7 ⟨rfl, b7⟩
  have HB7 := Lib.hid (HB6.out.trans (b7.mono HB6.out.size))
  have HR7 := Lib.hid ((b7.block w.heap.size (Array.getElem?_eq_some_iff.1 HR6.out).1).trans HR6.out)
  clear b7
  refine hK _ _ HR7.out ?_
  clear hK K
  refine h_take 22 (.string b8) rfl (by kernel_rfl) (by kernel_rfl) (by kernel_rfl) (fun _ _ _ h => h) (by kernel_rfl) HR7.out (by intro v hv; go_simp) ?_
  refine h_take 23 (.string b8) rfl (by kernel_rfl) (by kernel_rfl) (by kernel_rfl) (fun _ _ _ h => h) (by kernel_rfl) HR7.out (fun _ _ => by kernel_rfl) ?_
  refine wpAnyH_done (by kernel_rfl) ?_ _
  go_simp
  have HI : Hid (DlRel w (.cells #[.int .i64 1, .string st, .int .u64 (zu : Int), .slice A n c, .int .u64 (zo : Int), .int .u64 (zm : Int), .string sg] 35 (0, 0)) hws l (.string b8) (.int .i64 0) x7) := ⟨0, Nat.zero_le _, rfl, by rw [HT0.out], HB7.out, HR7.out⟩
  clear HB5 HR5 HB6 HR6 HB7 HR7 a1 a2 a3 a4 a5 a6 a7 a8
  go_wp2
  go_loopw [4, 5] (fun v4 v5 wr => DlRel w (.cells #[.int .i64 1, .string st, .int .u64 (zu : Int), .slice A n c, .int .u64 (zo : Int), .int .u64 (zm : Int), .string sg] 35 (0, 0)) hws l v4 v5 wr) (fun _ v5 _ => n - (intOf v5).toNat)
  case atStart => exact HI.out
  case round =>
    obtain ⟨i, hi, rfl, rfl, hb, hrec⟩ := hrel
    rw [HL.out] at hi
    have q3 := at_cell (i := 3) hrec rfl
    have HBR := Lib.hid hb
    have HRC := Lib.hid hrec
    clear hb hrec HI
    by_cases hlt : i < n
    · obtain ⟨x, hx⟩ : ∃ x, l[i]? = some x := ⟨_, List.getElem?_eq_getElem (by rw [HL.out]; exact hlt)⟩
      obtain ⟨ad, rfl, hadl, hcx⟩ := (H1.out.below HBR.out).2 (by omega)
      obtain ⟨y0, y1, y2⟩ := dps_at l i x hx
      have k0 := hcx _ _ y0
      have k1 := hcx _ _ y1
      have k2 := hcx _ _ y2
      rw [add_one] at k1
      rw [add_two] at k2
      have hxl := HS1.out x (List.mem_of_getElem? hx)
      have hxd := HDS.out x (List.mem_of_getElem? hx)
      have hj0 := HLL.out i
      have hsj : joinw (hws ++ (l.take (i + 1)).flatMap depws) = joinw (hws ++ (l.take i).flatMap depws) ++ [32] ++ eput x.name ++ [32] ++ hashw x := by
        rw [depws_snoc hx, ← List.append_assoc]
        exact step_join (HNE.out _) x
      obtain ⟨xn, xh, xo⟩ := x
      simp only at k0 k1 k2 hxl hxd hsj
      obtain ⟨z, rfl⟩ := Int.eq_ofNat_of_zero_le hxd.1
      have p1 := eput_len xn
      have p4 := hexl_len z 16
      have HPN := Lib.hid (fun W => rput_any xn (by omega) W)
      have HXZ := Lib.hid (HHX.out z (by omega))
      have hhw : hashw ⟨xn, (z : Int), xo⟩ = hexl z 16 ++ (if xo then [33] else []) := rfl
      rw [hhw] at hsj
      obtain ⟨J, hJ⟩ : ∃ J, J = joinw (hws ++ (l.take i).flatMap depws) := ⟨_, rfl⟩
      rw [← hJ] at hj0 hsj ⊢
      have c1 : ∀ W : World, (Op.stringOp .add (tx J) { data := #[32] }).run Tryd.prog W = .ok (.string (tx (J ++ [32]))) W := fun W => add_tx W J [32] (by simp; omega)
      have c2 : ∀ W : World, (Op.stringOp .add (tx (J ++ [32])) (tx (eput xn))).run Tryd.prog W = .ok (.string (tx (J ++ [32] ++ eput xn))) W := fun W => add_tx W _ _ (by simp; omega)
      have c3 : ∀ W : World, (Op.stringOp .add (tx (J ++ [32] ++ eput xn)) { data := #[32] }).run Tryd.prog W = .ok (.string (tx (J ++ [32] ++ eput xn ++ [32]))) W := fun W => add_tx W _ [32] (by simp; omega)
      have c4 : ∀ W : World, (Op.stringOp .add (tx (J ++ [32] ++ eput xn ++ [32])) (tx (hexl z 16))).run Tryd.prog W = .ok (.string (tx (J ++ [32] ++ eput xn ++ [32] ++ hexl z 16))) W := fun W => add_tx W _ _ (by rw [p4]; simp; omega)
      have c5 : ∀ W : World, (Op.stringOp .add (tx (J ++ [32] ++ eput xn ++ [32] ++ hexl z 16)) { data := #[33] }).run Tryd.prog W = .ok (.string (tx (J ++ [32] ++ eput xn ++ [32] ++ hexl z 16 ++ [33]))) W := fun W => add_tx W _ [33] (by simp [p4]; omega)
      have HSJ := Lib.hid hsj
      unfold rsv at k0
      clear hsj hhw hJ hj0 p1 p4
      have e5 : tx (J ++ [32] ++ eput xn ++ [32] ++ hexl z 16 ++ [33]) = tx (J ++ [32] ++ eput xn ++ [32] ++ (hexl z 16 ++ [33])) := by simp
      have e4 : tx (J ++ [32] ++ eput xn ++ [32] ++ hexl z 16) = tx (J ++ [32] ++ eput xn ++ [32] ++ (hexl z 16 ++ [])) := by simp
      rw [e5] at c5
      rw [e4] at c4 c5
      have HT1 : Hid (xo = true → tx (joinw (hws ++ (l.take (i + 1)).flatMap depws)) = tx (J ++ [32] ++ eput xn ++ [32] ++ (hexl z 16 ++ [33]))) := fun h => by rw [HSJ.out, h]; rfl
      have HT2 : Hid (xo = false → tx (joinw (hws ++ (l.take (i + 1)).flatMap depws)) = tx (J ++ [32] ++ eput xn ++ [32] ++ (hexl z 16 ++ []))) := fun h => by rw [HSJ.out, h]; rfl
      clear e4 e5 HSJ
      generalize tx (J ++ [32] ++ eput xn ++ [32] ++ (hexl z 16 ++ [33])) = d5 at *
      generalize tx (J ++ [32] ++ eput xn ++ [32] ++ (hexl z 16 ++ [])) = d4 at *
      generalize tx (J ++ [32] ++ eput xn ++ [32]) = d3 at *
      generalize tx (J ++ [32] ++ eput xn) = d2 at *
      generalize tx (J ++ [32]) = d1 at *
      generalize tx J = d0 at *
      generalize tx (eput xn) = p1 at *
      generalize tx (hexl z 16) = p2 at HXZ c1 c2 c3 c4 c5
      generalize tx xn = sn at *
      have hi0 : (0 : Int) ≤ (i : Int) := by omega
      have hi1 : (i : Int) < (n : Int) := by omega
      have HK2 := Lib.hid k2
      have HK0 := Lib.hid k0
      have HK1 := Lib.hid k1
      have HAD : Hid (ad.block < wr.heap.size) := by have := HBR.out.size; show _ < _; omega
      have hS0 : (wr.drew.heap[w.heap.size]? = some (.cells #[.int .i64 1, .string st, .int .u64 (zu : Int), .slice (some ad) n c, .int .u64 (zo : Int), .int .u64 (zm : Int), .string sg] 35 (0, 0)) ∧ wr.drew.cell? (ad.add (i * 3)) = some (.string sn) ∧ wr.drew.cell? ⟨(ad.add (i * 3)).block, (ad.add (i * 3)).off + 1, none⟩ = some (.int .u64 (z : Int))) := ⟨HRC.out, k0, k1⟩
      have HS0 := Lib.hid hS0
      clear hcx y0 y1 y2 hx hxl hxd hS0 k0 k1 k2
      go_wp2_with fail
      clear q3
      refine wp_region_held (S := fun W : World => W.heap[w.heap.size]? = some (.cells #[.int .i64 1, .string st, .int .u64 (zu : Int), .slice (some ad) n c, .int .u64 (zo : Int), .int .u64 (zm : Int), .string sg] 35 (0, 0)) ∧ W.cell? (ad.add (i * 3)) = some (.string sn) ∧ W.cell? ⟨(ad.add (i * 3)).block, (ad.add (i * 3)).off + 1, none⟩ = some (.int .u64 (z : Int))) (by kernel_rfl) ?_
      refine h_take 0 (.string d0) rfl (by kernel_rfl) (by kernel_rfl) (by kernel_rfl) (fun _ _ _ h => h) (by kernel_rfl) HS0.out (fun _ _ => by kernel_rfl) ?_
      refine h_take 1 (.string d1) rfl (by kernel_rfl) (by kernel_rfl) (by kernel_rfl) (fun _ _ _ h => h) (by kernel_rfl) HS0.out (by intro v hv; go_simp) ?_
      refine h_take 2 (.pointer (some ⟨w.heap.size, 3, none⟩)) rfl (by kernel_rfl) (by kernel_rfl) (by kernel_rfl) (fun _ _ _ h => h) (by kernel_rfl) HS0.out (fun _ _ => by kernel_rfl) ?_
      refine h_take 3 (.slice (some ad) n c) rfl (by kernel_rfl) (by kernel_rfl) (by kernel_rfl) (fun _ _ _ h => h) (by kernel_rfl) HS0.out (by intro W hW; have x := at_cell (i := 3) hW.1 rfl; have x0 := hW.2.1; have x1 := hW.2.2; clear hW; go_simp) ?_
      refine h_take 4 (.int .i64 (i : Int)) rfl (by kernel_rfl) (by kernel_rfl) (by kernel_rfl) (fun _ _ _ h => h) (by kernel_rfl) HS0.out (fun _ _ => by kernel_rfl) ?_
      refine h_take 5 (.pointer (some (ad.add (i * 3)))) rfl (by kernel_rfl) (by kernel_rfl) (by kernel_rfl) (fun _ _ _ h => h) (by kernel_rfl) HS0.out (by intro W hW; go_simp) ?_
      refine h_take 6 (.pointer (some (ad.add (i * 3)))) rfl (by kernel_rfl) (by kernel_rfl) (by kernel_rfl) (fun _ _ _ h => h) (by kernel_rfl) HS0.out (by intro v hv; go_simp) ?_
      refine h_take 7 (.string sn) rfl (by kernel_rfl) (by kernel_rfl) (by kernel_rfl) (fun _ _ _ h => h) (by kernel_rfl) HS0.out (by intro W hW; have x := at_cell (i := 3) hW.1 rfl; have x0 := hW.2.1; have x1 := hW.2.2; clear hW; go_simp) ?_
      refine h_take 11 (.pointer (some ⟨w.heap.size, 3, none⟩)) rfl (by kernel_rfl) (by kernel_rfl) (by kernel_rfl) (fun _ _ _ h => h) (by kernel_rfl) HS0.out (fun _ _ => by kernel_rfl) ?_
      refine h_take 12 (.slice (some ad) n c) rfl (by kernel_rfl) (by kernel_rfl) (by kernel_rfl) (fun _ _ _ h => h) (by kernel_rfl) HS0.out (by intro W hW; have x := at_cell (i := 3) hW.1 rfl; have x0 := hW.2.1; have x1 := hW.2.2; clear hW; go_simp) ?_
      refine h_take 13 (.int .i64 (i : Int)) rfl (by kernel_rfl) (by kernel_rfl) (by kernel_rfl) (fun _ _ _ h => h) (by kernel_rfl) HS0.out (fun _ _ => by kernel_rfl) ?_
      refine h_take 14 (.pointer (some (ad.add (i * 3)))) rfl (by kernel_rfl) (by kernel_rfl) (by kernel_rfl) (fun _ _ _ h => h) (by kernel_rfl) HS0.out (by intro W hW; go_simp) ?_
      refine h_take 15 (.pointer (some ⟨(ad.add (i * 3)).block, (ad.add (i * 3)).off + 1, none⟩)) rfl (by kernel_rfl) (by kernel_rfl) (by kernel_rfl) (fun _ _ _ h => h) (by kernel_rfl) HS0.out (by intro v hv; go_simp) ?_
      refine h_take 16 (.int .u64 (z : Int)) rfl (by kernel_rfl) (by kernel_rfl) (by kernel_rfl) (fun _ _ _ h => h) (by kernel_rfl) HS0.out (by intro W hW; have x := at_cell (i := 3) hW.1 rfl; have x0 := hW.2.1; have x1 := hW.2.2; clear hW; go_simp) ?_
      refine h_one 8 rfl (by kernel_rfl) (by kernel_rfl) (fun K hK => ?_)
      go_simp
      refine (HPN.out _).mono ?_
      rintro e x9 ⟨rfl, b9⟩
      have HB9 : Hid (Below w.heap.size w x9) := HBR.out.drew.trans (b9.mono HBR.out.drew.size)
      have HS9 := Lib.hid (show x9.heap[w.heap.size]? = some (.cells #[.int .i64 1, .string st, .int .u64 (zu : Int), .slice (some ad) n c, .int .u64 (zo : Int), .int .u64 (zm : Int), .string sg] 35 (0, 0)) ∧ x9.cell? (ad.add (i * 3)) = some (.string sn) ∧ x9.cell? ⟨(ad.add (i * 3)).block, (ad.add (i * 3)).off + 1, none⟩ = some (.int .u64 (z : Int)) from ⟨(b9.block w.heap.size (Array.getElem?_eq_some_iff.1 HS0.out.1).1).trans HS0.out.1, (b9.cell (by rw [block_of_add]; exact HAD.out)).trans HS0.out.2.1, (b9.cell (p := ⟨(ad.add (i * 3)).block, (ad.add (i * 3)).off + 1, none⟩) (by show (ad.add (i * 3)).block < _; rw [block_of_add]; exact HAD.out)).trans HS0.out.2.2⟩)
      have HK9 := Lib.hid ((b9.cell (p := ⟨(ad.add (i * 3)).block, (ad.add (i * 3)).off + 2, none⟩) (by show (ad.add (i * 3)).block < _; rw [block_of_add]; exact HAD.out)).trans HK2.out)
      clear b9
      refine hK _ _ HS9.out ?_
      clear hK K
      refine h_take 9 (.string d2) rfl (by kernel_rfl) (by kernel_rfl) (by kernel_rfl) (fun _ _ _ h => h) (by kernel_rfl) HS9.out (by intro v hv; go_simp) ?_
      refine h_take 10 (.string d3) rfl (by kernel_rfl) (by kernel_rfl) (by kernel_rfl) (fun _ _ _ h => h) (by kernel_rfl) HS9.out (by intro v hv; go_simp) ?_
      refine h_one 17 rfl (by kernel_rfl) (by kernel_rfl) (fun K hK => ?_)
      go_simp
      refine (HXZ.out _).mono ?_
      rintro e wx ⟨rfl, rfl⟩
      refine hK _ _ HS9.out ?_
      clear hK K
      refine h_take 18 (.string d4) rfl (by kernel_rfl) (by kernel_rfl) (by kernel_rfl) (fun _ _ _ h => h) (by kernel_rfl) HS9.out (by intro v hv; go_simp) ?_
      refine h_take 19 (.string d4) rfl (by kernel_rfl) (by kernel_rfl) (by kernel_rfl) (fun _ _ _ h => h) (by kernel_rfl) HS9.out (fun _ _ => by kernel_rfl) ?_
      refine wpAnyH_done (by kernel_rfl) ?_ _
      go_simp
      have q3 := at_cell (i := 3) HS9.out.1 rfl
      have k2 := HK9.out
      cases xo with
      | true =>
        go_wp2
        exact ⟨⟨i + 1, by rw [HL.out]; omega, by go_num, by rw [HT1.out rfl], HB9.out, HS9.out.1⟩, by simp [intOf]; omega⟩
      | false =>
        go_wp2
        exact ⟨⟨i + 1, by rw [HL.out]; omega, by go_num, by rw [HT2.out rfl], HB9.out, HS9.out.1⟩, by simp [intOf]; omega⟩
    · obtain rfl : i = n := by omega
      have htk : l.take i = l := List.take_of_length_le (by rw [HL.out]; exact Nat.le_refl _)
      rw [htk, ← HLW.out, ← HJL.out]
      clear htk
      go_wp2
      go_ret2
      exact ⟨rfl, HBR.out⟩

end Go.Proofs.YtgioknppnfencaaDoor

/- A builder's first write; the text of no records; the law's example. -/
namespace Go.Proofs.YtgioknppnfencaaDoor
open Go.RowKit

theorem builder_info : (Tryd.prog.info? 41).map (·.size) = some 2 := by kernel_rfl
theorem builder_lies : liesAt Tryd.prog Tryd.prog.depth 41 (2 / Tryd.prog.cellsOf 41) 0 41 1 = true := by kernel_rfl
theorem byte_info : (Tryd.prog.info? 5).map (fun i => (i.zero, i.size, i.bytes)) = some (some (.int .u8 0), 1, 1) := by kernel_rfl

set_option maxHeartbeats 1000000 in
set_option maxRecDepth 100000 in
theorem check_fresh (b : Nat) (w : World) (h0 : w.cell? ⟨b, 0, none⟩ = some (.pointer none)) (hsh : w.shape? b = some (41, 2)) (hfz : w.frozen? ⟨b, 0, none⟩ = false) :
    Calls Tryd.prog 27 #[.pointer (some ⟨b, 0, none⟩)] w fun e w' => e = .returned (.tuple #[]) ∧ w' = w.setCell ⟨b, 0, none⟩ (.pointer (some ⟨b, 0, none⟩)) := by
  obtain ⟨j, hj, hjs⟩ := Option.map_eq_some_iff.1 builder_info
  go_enter Tryd.func27, Tryd.ntmps27
  go_wp2
  rw [Lib.run_to_unsafe w ⟨b, 0, none⟩ Tryd.underlying38 Tryd.underlying68 hj (by rw [hjs]; decide) hsh (Nat.zero_lt_succ 1)]
  simp only [Result.andThen]
  rw [Oper.upon_value]
  go_wp2
  rw [run_callFunc_extern Tryd.func42 (by kernel_rfl) (by kernel_rfl) (by kernel_rfl) (e := Extern.AbiNoEscape.same) (by kernel_rfl)]
  rw [Lib.run_noEscape]
  simp only [Result.andThen]
  rw [Oper.upon_value]
  go_wp2
  rw [Lib.run_from_unsafe w ⟨b, 0, none⟩ Tryd.underlying68 Tryd.underlying38 hj hsh builder_lies]
  simp only [Result.andThen]
  rw [Oper.upon_value]
  go_wp2
  go_end0
  exact ⟨rfl, rfl⟩

set_option maxHeartbeats 2000000 in
set_option maxRecDepth 100000 in
theorem write_fresh (B b : Nat) (s : ByteArray) (w : World) (h : Lib.BuilderAt 41 5 B b (.pointer none) [] w) (hlen : s.size ≤ 1000000) (hBw : B ≤ w.heap.size) :
    Calls Tryd.prog 14 #[.pointer (some ⟨b, 0, none⟩), .string s] w fun e w' => e = .returned (.tuple #[.int .i64 s.size, .nilIface]) ∧ (Lib.BuilderAt 41 5 B b (.pointer (some ⟨b, 0, none⟩)) (Lib.strCells s) w' ∧ Below B w w') := by
  obtain ⟨i0, hi, hz0, hz1, hz2⟩ := info_parts byte_info
  have hcc := check_fresh b w h.cell0 h.shape h.frozen0
  have HU := Lib.hid (h.used (.pointer (some ⟨b, 0, none⟩)))
  have hB1 := Lib.hid ((Below.refl B w).setCell (p := ⟨b, 0, none⟩) h.1 (.pointer (some ⟨b, 0, none⟩)))
  have HC := Lib.hid hcc
  clear hcc h
  go_enter Tryd.func14, Tryd.ntmps14
  go_wp2_with fail
  refine HC.out.mono ?_
  rintro e w1 ⟨rfl, hw1⟩
  rw [← hw1] at HU hB1
  clear hw1 HC
  obtain ⟨hB, v, hbk, hown, hne⟩ := HU.out
  have hb1 := hB1.out
  have c0 : w1.cell? ⟨b, 0, none⟩ = some (.pointer (some ⟨b, 0, none⟩)) := by rw [Lib.cell_of_heap hbk]; rfl
  have c1 : w1.cell? ⟨b, 1, none⟩ = some v := by rw [Lib.cell_of_heap hbk]; rfl
  go_wp2_with (at_builtin; refine Lib.wpList_append_own_string _ rfl _ _ 39 9 rfl B 5 i0 Tryd.underlying39 Tryd.underlying9 hi hz0 hz1 hz2 _ _ _ rfl hown s rfl ?c3 ?c4 ?c5 ?_)
  case c3 => unfold maxLen; simp; omega
  case c4 => simp; omega
  case c5 => have := hb1.size; omega
  intro v' w2 hown' hgrow _
  have hlt : b < w1.heap.size := by
    rcases Nat.lt_or_ge b w1.heap.size with h' | h'
    · exact h'
    · simp [Array.getElem?_eq_none h'] at hbk
  have hb2 : w2.heap[b]? = some (.cells #[.pointer (some ⟨b, 0, none⟩), v] 41 (0, 0)) := by
    rw [hgrow.block b hlt (fun e => hne e.symm)]
    exact hbk
  have d0 : w2.cell? ⟨b, 0, none⟩ = some (.pointer (some ⟨b, 0, none⟩)) := by rw [Lib.cell_of_heap hb2]; rfl
  have d1 : w2.cell? ⟨b, 1, none⟩ = some v := by rw [Lib.cell_of_heap hb2]; rfl
  have f1 : w2.frozen? ⟨b, 1, none⟩ = false := Lib.frozen_of_heap hb2 1
  obtain ⟨ao, n', cap, rfl⟩ : ∃ ao n' cap, v' = .slice ao n' cap := by
    rcases hown'.2 with ⟨hv, _⟩ | ⟨g, cap, cur, hv, _⟩
    · exact ⟨_, _, _, hv⟩
    · exact ⟨_, _, _, hv⟩
  go_wp2
  go_ret2
  refine ⟨rfl, ?_, ?_⟩
  · exact Lib.BuilderAt.put (T := 41) (e := 5) hB hb2 (bs' := Lib.strCells s) (by simpa [Lib.strCells_length] using hown') (by decide)
  · exact (hb1.grown hgrow (by have := hb1.size; omega) (fun k hk => (hown.lt k hk).1)).setCell (p := ⟨b, 1, none⟩) hB _

theorem fresh_builder (w : World) : Lib.BuilderAt 41 5 w.heap.size w.heap.size (.pointer none) [] (w.alloc (.cells #[.pointer none, .slice none 0 0] 41)) :=
  ⟨Nat.le_refl _, .slice none 0 0, one_new w _, World.ownsRow_nil _ _ _ _, by simp [Value.ownBlock]⟩
theorem builder_below {T e : TypeId} {B b : Nat} {p : Value} {bs : List Value} {w w' : World} (h : Lib.BuilderAt T e B b p bs w) (hb : Below w.heap.size w w') : Lib.BuilderAt T e B b p bs w' := by
  have hlt := h.lt
  obtain ⟨hB, v, hk, hown, hne⟩ := h
  exact ⟨hB, v, (hb.block b hlt).trans hk, own_below hown hb, hne⟩

theorem right_nil (w : World) : Calls Tryd.prog 13 #[.slice none 0 0] w fun e w' => e = .returned (.bool true) ∧ w = w' := by
  go_enter Tryd.func13, Tryd.ntmps13
  go_wp2
  go_loopw [7] (fun v wr => v = .int .i64 0 ∧ w = wr) (fun _ _ => 0)
  case atStart => exact ⟨rfl, rfl⟩
  case round =>
    obtain ⟨rfl, rfl⟩ := hrel
    go_wp2
    go_ret
    exact ⟨rfl, rfl⟩

/-- The first line of no records. -/
def line0 : List UInt8 := [116, 101, 112, 104, 114, 97, 32, 48, 10]

theorem itoa0 (W : World) : Calls Tryd.prog 16 #[.int .i64 0] W fun e w' => e = .returned (.string { data := #[48] }) ∧ w' = W := by
  have h := Tryd.strconv_Itoa_small 0 (by omega) W
  rw [show Lib.decDigits 0 = [48] by unfold Lib.decDigits; simp] at h
  exact h
theorem join0 (W : World) : Calls Tryd.prog 15 #[.slice (some ⟨W.heap.size, 0, none⟩) 2 2] (W.alloc (.cells #[.string { data := #[116, 101, 112, 104, 114, 97] }, .string { data := #[48] }] 9)) fun e w' => e = .returned (.string { data := #[116, 101, 112, 104, 114, 97, 32, 48] }) ∧ Below W.heap.size W w' := ejoin_two [116, 101, 112, 104, 114, 97] [48] (by simp) (by simp) W
theorem add0 (W : World) : (Op.stringOp .add { data := #[116, 101, 112, 104, 114, 97, 32, 48] } { data := #[10] }).run Tryd.prog W = .ok (.string (tx line0)) W := add_tx W [116, 101, 112, 104, 114, 97, 32, 48] [10] (by simp)
theorem line0_cells : Lib.strCells (tx line0) = Lib.byteCells line0 := rfl
theorem line0_string (B b : Nat) (W : World) (h : Lib.IsBuilder 41 5 B b (Lib.byteCells line0) W) (h2 : B ≤ W.heap.size) : Calls Tryd.prog 19 #[.pointer (some ⟨b, 0, none⟩)] W fun e w' => e = .returned (.string (tx line0)) ∧ Below B W w' := Tryd.Builder_String_any B b line0 W h h2
theorem line0_size : (tx line0).size = 9 := rfl

set_option maxHeartbeats 1000000 in
set_option maxRecDepth 100000 in
theorem text_nil (w : World) (hl : Laid w) : Calls Tryd.prog 7 #[.slice none 0 0] w fun e w' => e = .returned (.tuple #[.string (tx (seald line0)), .int .i64 0]) ∧ Below w.heap.size w w' := by
  have HR := Lib.hid (fun W => right_nil W)
  have HI := Lib.hid itoa0
  have hj := join0 (w.alloc (.cells #[.pointer none, .slice none 0 0] 41))
  rw [World.size_alloc] at hj
  have HJ := Lib.hid hj
  clear hj
  have hadd := add0
  have HB0 := Lib.hid (fresh_builder w)
  have HW0 := Lib.hid ((Below.refl _ w).alloc (Nat.le_refl _) (.cells #[.pointer none, .slice none 0 0] 41))
  have HCELLS := Lib.hid line0_cells
  have hsz := line0_size
  have HL := Lib.hid hl
  have HSE := Lib.hid (fun W h => sealed_any line0 (by decide) W h)
  have HST := Lib.hid line0_string
  generalize tx (seald line0) = q at *
  generalize tx line0 = s at *
  generalize Lib.byteCells line0 = lc at *
  clear hl
  go_enter Tryd.func7, Tryd.ntmps7
  go_wp2_with fail
  refine (HR.out _).mono ?_
  rintro e w1 ⟨rfl, rfl⟩
  go_wp2_with fail
  refine (HI.out _).mono ?_
  rintro e w2 ⟨rfl, rfl⟩
  go_wp2_with fail
  refine HJ.out.mono ?_
  rintro e w3 ⟨rfl, hb3⟩
  have HB3 := Lib.hid (builder_below HB0.out (by rw [World.size_alloc]; exact hb3))
  have HW3 := Lib.hid (HW0.out.trans (hb3.mono (by omega)))
  clear hb3
  go_wp2_with fail
  refine (write_fresh w.heap.size w.heap.size _ w3 HB3.out (by rw [hsz]; omega) HW3.out.size).mono ?_
  rintro e w4 ⟨rfl, hb4, hw4⟩
  rw [HCELLS.out] at hb4
  have HB4 := Lib.hid hb4
  have HW4 := Lib.hid (HW3.out.trans hw4)
  clear hb4 hw4
  go_wp2
  go_loopw [21] (fun v wr => v = .int .i64 0 ∧ w4 = wr) (fun _ _ => 0)
  case atStart => exact ⟨rfl, rfl⟩
  case round =>
    obtain ⟨rfl, rfl⟩ := hrel
    go_wp2_with fail
    refine (HST.out w.heap.size w.heap.size _ (.inr HB4.out) HW4.out.size).mono ?_
    rintro e w5 ⟨rfl, hb5⟩
    have HW5 := Lib.hid (HW4.out.trans hb5)
    clear hb5
    go_wp2_with fail
    refine (HSE.out _ (HL.out.below HW5.out)).mono ?_
    rintro e w6 ⟨rfl, hb6⟩
    have hw6 := HW5.out.trans (hb6.mono HW5.out.size)
    clear hb6
    go_wp2
    go_ret2
    exact ⟨rfl, hw6⟩

set_option maxHeartbeats 1000000 in
set_option maxRecDepth 100000 in
theorem dfixed_any (w : World) (hl : Laid w) : Calls Tryd.prog 6 #[] w fun e w' => e = .returned (.bool true) ∧ Below w.heap.size w w' := by
  have HT := Lib.hid (text_nil w hl)
  have HP : Hid (∀ W, Calls Tryd.prog 12 #[.string (tx (seald line0)), .string { data := #[116, 101, 112, 104, 114, 97, 32, 48, 10, 115, 117, 109, 32] }] W fun e w' => e = .returned (.bool true) ∧ w' = W) := fun W => by
    have h := Tryd.strings_HasPrefix (tx (seald line0)) { data := #[116, 101, 112, 104, 114, 97, 32, 48, 10, 115, 117, 109, 32] } W
    rw [show Lib.hasPrefix (tx (seald line0)).data.toList ({ data := #[116, 101, 112, 104, 114, 97, 32, 48, 10, 115, 117, 109, 32] } : ByteArray).data.toList = true by
      show List.isPrefixOf _ _ = true
      rw [List.isPrefixOf_iff_prefix]
      exact ⟨sum8 line0 ++ [10], by simp [seald, line0, tx]⟩] at h
    exact h
  have hsz : (tx (seald line0)).size = 22 := by rw [tx_size, seald_len]; rfl
  generalize tx (seald line0) = q at *
  clear hl
  go_enter Tryd.func6, Tryd.ntmps6
  go_wp2_with fail
  refine HT.out.mono ?_
  rintro e w1 ⟨rfl, hb1⟩
  go_wp2_with fail
  refine (HP.out _).mono ?_
  rintro e w2 ⟨rfl, rfl⟩
  go_wp2
  go_ret
  exact ⟨rfl, hb1⟩

end Go.Proofs.YtgioknppnfencaaDoor

/- Great, told outright. -/
namespace Go.Proofs.YtgioknppnfencaaDoor
open Go.RowKit

set_option maxRecDepth 100000 in
set_option maxHeartbeats 1000000 in
theorem great_says (r : Rc) (A : Option Addr) (n c : Nat) (l : List Dp) (w : World) (hn : n ≤ maxLen) (hfit : ∀ d ∈ l, d.name.length ≤ maxLen) (ht : r.target.length ≤ maxLen) (hg : r.tag.length ≤ maxLen) (h : Reads w w.heap.size 3 A n (dps l)) :
    Calls Tryd.prog 11 #[rcv r A n c] w fun e w' => Tells (¬ small r l) e ∧ Below w.heap.size w w' := by
  have HL : Hid (l.length = n) := by have := h.1; rw [dps_len] at this; show _ = _; omega
  have H1 := Lib.hid h
  have HF := Lib.hid hfit
  have hm : Hid (maxLen = 9223372036854775807 ∨ True) := .inr trivial
  have hbx := Lib.hid ((Below.refl w.heap.size w).alloc (Nat.le_refl _) (.cells #[.int .i64 r.kind, .string (tx r.target), .int .u64 r.rule, .slice A n c, .int .u64 r.out, .int .u64 r.time, .string (tx r.tag)] 35))
  have hnb : Hid ((w.alloc (.cells #[.int .i64 r.kind, .string (tx r.target), .int .u64 r.rule, .slice A n c, .int .u64 r.out, .int .u64 r.time, .string (tx r.tag)] 35)).heap[w.heap.size]? = some (.cells #[.int .i64 r.kind, .string (tx r.target), .int .u64 r.rule, .slice A n c, .int .u64 r.out, .int .u64 r.time, .string (tx r.tag)] 35 (0, 0))) := by show (w.heap.push _)[w.heap.size]? = _; exact Array.getElem?_push_size
  unfold rcv rsv
  have hs1 := tx_size0 r.target
  have hs2 := tx_size0 r.tag
  unfold maxLen at hn ht hg
  clear h hfit
  go_enter Tryd.func11, Tryd.ntmps11
  go_wp2
  go_loopw [8] (fun idx wr => ∃ i : Nat, i ≤ n ∧ idx = .int .i64 (i : Int) ∧ (∀ d ∈ l.take i, d.name.length ≤ 300) ∧ Below w.heap.size w wr ∧ wr.heap[w.heap.size]? = some (.cells #[.int .i64 r.kind, .string (tx r.target), .int .u64 r.rule, .slice A n c, .int .u64 r.out, .int .u64 r.time, .string (tx r.tag)] 35 (0, 0))) (fun idx wr => n - (intOf idx).toNat)
  case atStart => exact ⟨0, by omega, rfl, by simp, hbx.out, hnb.out⟩
  case round =>
    obtain ⟨i, hi, rfl, hsm, hb, hbl⟩ := hrel
    have HSM := Lib.hid hsm
    have q1 := at_cell (i := 1) hbl rfl
    have q3 := at_cell (i := 3) hbl rfl
    have q6 := at_cell (i := 6) hbl rfl
    clear hsm
    by_cases hlt : i < n
    · obtain ⟨x, hx⟩ : ∃ x, l[i]? = some x := ⟨_, List.getElem?_eq_getElem (by rw [HL.out]; exact hlt)⟩
      obtain ⟨ad, rfl, _, hcx⟩ := (H1.out.below hb).2 (by omega)
      obtain ⟨x0, x1, x2⟩ := dps_at l i x hx
      have k0 := hcx _ _ x0
      have k1 := hcx _ _ x1
      have k2 := hcx _ _ x2
      rw [add_one] at k1
      rw [add_two] at k2
      have hxl := HF.out x (List.mem_of_getElem? hx)
      obtain ⟨xn, xh, xo⟩ := x
      simp only at k0 k1 k2 hxl
      have hs3 := tx_size0 xn
      obtain ⟨m, hm⟩ : ∃ m, m = xn.length := ⟨_, rfl⟩
      rw [← hm] at hs3 hxl
      unfold rsv at k0
      unfold maxLen at hxl
      have HX : Hid (m ≤ 300 → ∀ d ∈ l.take (i + 1), d.name.length ≤ 300) := fun hle d hd => by
        rw [List.take_add_one, hx, List.mem_append] at hd
        rcases hd with hd | hd
        · exact HSM.out d hd
        · simp at hd; subst hd; exact hm ▸ hle
      have HNS : Hid (¬ m ≤ 300 → ¬ small r l) := fun hle h => hle (by rw [hm]; exact h.1 ⟨xn, xh, xo⟩ (List.mem_of_getElem? hx))
      have HBR := Lib.hid hb
      have HBL := Lib.hid hbl
      have hi0 : (0 : Int) ≤ (i : Int) := by omega
      have hi1 : (i : Int) < (n : Int) := by omega
      have HBN := Lib.hid (hb.alloc hb.size (.cells #[.string (tx xn), .int .u64 xh, .bool xo] 56))
      have HBLN := Lib.hid ((Below.heap_alloc wr (.cells #[.string (tx xn), .int .u64 xh, .bool xo] 56) w.heap.size (by
        rcases Nat.lt_or_ge w.heap.size wr.heap.size with h | h
        · exact h
        · rw [Array.getElem?_eq_none h] at hbl; cases hbl)).trans hbl)
      clear hcx x0 x1 x2 hx hb hbl hm
      by_cases h300 : m ≤ 300
      · have hd1 : decide ((m : Int) > 300) = false := by rw [decide_eq_false_iff_not]; omega
        go_wp2
        exact ⟨⟨i + 1, by omega, by go_num, HX.out h300, HBN.out, HBLN.out⟩, by simp [intOf]; omega⟩
      · have hd1 : decide ((m : Int) > 300) = true := by rw [decide_eq_true_iff]; omega
        have HN2 := Lib.hid (HNS.out h300)
        go_wp2
        go_ret
        exact ⟨tells_true HN2.out, HBN.out⟩
    · obtain rfl : i = n := by omega
      have HBR := Lib.hid hb
      rw [List.take_of_length_le (by rw [HL.out]; omega)] at HSM
      clear hb hbl
      by_cases hA : i ≤ 60 ∧ r.target.length ≤ 300 ∧ r.tag.length ≤ 300
      · have HQ : Hid (small r l) := ⟨HSM.out, by rw [HL.out]; exact hA.1, hA.2⟩
        obtain ⟨g1, g2, g3⟩ := hA
        go_wp2
        go_ret
        exact ⟨by first | exact tells_false (fun h => h HQ.out) | (refine (show ∀ {b : Bool}, b = false → Tells (¬ small r l) (.returned (.bool b)) from fun h => h ▸ tells_false (fun h => h HQ.out)) ?_; simp; omega), HBR.out⟩
      · have HNS : Hid (¬ small r l) := fun h => hA ⟨by have := h.2.1; rw [HL.out] at this; exact this, h.2.2⟩
        have END : Hid (∀ b : Bool, b = true → Tells (¬ small r l) (.returned (.bool b))) := fun b h => h ▸ tells_true HNS.out
        by_cases g1 : i ≤ 60
        · by_cases g2 : r.target.length ≤ 300
          · have g3 : 300 < r.tag.length := by omega
            clear hA
            go_wp2
            go_ret
            exact ⟨END.out _ (by first | rfl | (simp; omega)), HBR.out⟩
          · clear hA
            go_wp2
            go_ret
            exact ⟨END.out _ (by first | rfl | (simp; omega)), HBR.out⟩
        · clear hA
          go_wp2
          go_ret
          exact ⟨END.out _ (by first | rfl | (simp; omega)), HBR.out⟩

end Go.Proofs.YtgioknppnfencaaDoor

/- What both tell of a record: its line, or that it has none. -/
namespace Go.Proofs.YtgioknppnfencaaDoor
open Go.RowKit

theorem ix_miss (c : UInt8) : ∀ {a : List UInt8}, (∀ b ∈ a, b ≠ c) → Lib.indexByte a c = -1
  | [], _ => rfl
  | x :: a, h => by
    have ih := ix_miss c (a := a) (fun b hb => h b (by simp [hb]))
    have hc : (x == c) = false := by simpa using h x (by simp)
    unfold Lib.indexByte
    rw [hc, ih]
    rfl
theorem joinw_mem : ∀ {ws : List (List UInt8)} {b : UInt8}, b ∈ joinw ws → b = 32 ∨ ∃ x ∈ ws, b ∈ x
  | [], b, h => by simp [joinw_nil] at h
  | [a], b, h => .inr ⟨a, by simp, by rwa [joinw_one] at h⟩
  | a :: c :: ws, b, h => by
    rw [joinw_cons a (c :: ws) (by simp), List.mem_append, List.mem_cons] at h
    rcases h with h | h | h
    · exact .inr ⟨a, by simp, h⟩
    · exact .inl h
    · rcases joinw_mem h with h | ⟨x, hx, hb⟩
      · exact .inl h
      · exact .inr ⟨x, by simp [hx], hb⟩
theorem hexl_mem (h : Nat) : ∀ (k : Nat) {b : UInt8}, b ∈ hexl h k → b ≠ 10
  | 0, b, hb => by simp [hexl] at hb
  | k + 1, b, hb => by
    rw [hexl, List.mem_cons] at hb
    rcases hb with rfl | hb
    · have : ∀ m : Fin 16, dig m.val ≠ 10 := by decide
      exact this ⟨h / 16 ^ k % 16, Nat.mod_lt _ (by omega)⟩
    · exact hexl_mem h k hb
theorem dec_mem (z : Nat) : ∀ b ∈ Lib.decDigits z, b ≠ 10 := by
  have hd : ∀ m : Fin 10, UInt8.ofNat (48 + m.val) ≠ 10 := by decide
  induction z using Nat.strongRecOn with
  | _ z ih =>
    intro b hb
    by_cases h : z < 10
    · rw [dec_small h] at hb
      obtain rfl := List.mem_singleton.1 hb
      exact hd ⟨z, h⟩
    · rw [dec_big h, List.mem_append] at hb
      rcases hb with hb | hb
      · exact ih (z / 10) (by omega) b hb
      · exact ih (z % 10) (by omega) b hb
theorem line_mem (t g : List UInt8) (zu zo zm : Nat) (l : List Dp) : ∀ b ∈ joinw (linews t zu zo zm g l), b ≠ 10 := fun b hb => by
  have he : ∀ {s : List UInt8}, b ∈ eput s → b ≠ 10 := fun h e => by
    have := (eput_mem h).1
    rw [e] at this
    exact absurd this (by decide)
  rcases joinw_mem hb with rfl | ⟨x, hx, hb⟩
  · decide
  · rcases List.mem_append.1 hx with hx | hx
    · simp only [headws, List.mem_cons, List.not_mem_nil, or_false] at hx
      rcases hx with rfl | rfl | rfl | rfl | rfl
      · exact he hb
      · exact hexl_mem _ _ hb
      · exact hexl_mem _ _ hb
      · exact dec_mem _ b hb
      · exact he hb
    · obtain ⟨d, _, hx⟩ := List.mem_flatMap.1 hx
      simp only [depws, List.mem_cons, List.not_mem_nil, or_false] at hx
      rcases hx with rfl | rfl
      · exact he hb
      · unfold hashw at hb
        rcases List.mem_append.1 hb with hb | hb
        · exact hexl_mem _ _ hb
        · split at hb
          · obtain rfl := List.mem_singleton.1 hb; decide
          · cases hb

set_option maxRecDepth 100000 in
set_option maxHeartbeats 1000000 in
theorem dline_no (k u o m : Int) (t g : List UInt8) (A : Option Addr) (n c : Nat) (l : List Dp) (hn : n ≤ 1000) (hfit : Fits ⟨k, t, u, o, m, g⟩ l) (hno : ¬ (k = 1 ∧ MayP 3 ⟨k, t, u, o, m, g⟩ l)) (w : World) (h : Reads w w.heap.size 3 A n (dps l)) :
    Calls Tryd.prog 17 #[.agg #[.int .i64 k, .string (tx t), .int .u64 u, .slice A n c, .int .u64 o, .int .u64 m, .string (tx g)]] w fun e w' => e = .returned (.tuple #[.string { data := #[] }, .int .i64 1]) ∧ Below w.heap.size w w' := by
  have H0 := Lib.hid (one_new w (.cells #[.int .i64 k, .string (tx t), .int .u64 u, .slice A n c, .int .u64 o, .int .u64 m, .string (tx g)] 35))
  have HB0 := Lib.hid ((Below.refl w.heap.size w).alloc (Nat.le_refl _) (.cells #[.int .i64 k, .string (tx t), .int .u64 u, .slice A n c, .int .u64 o, .int .u64 m, .string (tx g)] 35))
  have H1 := Lib.hid h
  have HMAY : Hid (k = 1 → ∀ W, Below w.heap.size w W → Calls Tryd.prog 30 #[.int .i64 3, .agg #[.int .i64 k, .string (tx t), .int .u64 u, .slice A n c, .int .u64 o, .int .u64 m, .string (tx g)]] W fun e w' => e = .returned (.bool false) ∧ Below W.heap.size W w') := fun hk W hW =>
    (may_any 3 ⟨k, t, u, o, m, g⟩ A n c l hn hfit W ((H1.out.below hW).more hW.size)).mono fun e w' ⟨ht, hb⟩ => ⟨ht.no (fun hm => hno ⟨hk, hm⟩), hb⟩
  have q0 := at_cell (i := 0) H0.out rfl
  have q1 := at_cell (i := 1) H0.out rfl
  have q2 := at_cell (i := 2) H0.out rfl
  have q3 := at_cell (i := 3) H0.out rfl
  have q4 := at_cell (i := 4) H0.out rfl
  have q5 := at_cell (i := 5) H0.out rfl
  have q6 := at_cell (i := 6) H0.out rfl
  clear h hfit hno hn
  generalize tx t = st at *
  generalize tx g = sg at *
  by_cases hk : k = 1
  · subst hk
    have HM := Lib.hid (HMAY.out rfl)
    clear HMAY
    go_enter Tryd.func17, Tryd.ntmps17
    go_wp2_with fail
    refine (HM.out _ HB0.out).mono ?_
    rintro e w1 ⟨rfl, b1⟩
    have hb1 := HB0.out.trans (b1.mono HB0.out.size)
    clear b1
    go_wp2
    go_ret2
    exact ⟨rfl, hb1⟩
  · have hd : (k == 1) = false := by rw [beq_eq_false_iff_ne]; exact hk
    have hd2 : (k != 1) = true := by rw [bne_iff_ne]; exact hk
    clear HMAY
    go_enter Tryd.func17, Tryd.ntmps17
    go_wp2
    go_ret2
    exact ⟨rfl, HB0.out⟩

set_option maxRecDepth 100000 in
set_option maxHeartbeats 1000000 in
theorem rline_no (k u o m : Int) (t g : List UInt8) (A : Option Addr) (n c : Nat) (l : List Dp) (hn : n ≤ 1000) (hfit : Fits ⟨k, t, u, o, m, g⟩ l) (hno : ¬ (k = 1 ∧ MayP 3 ⟨k, t, u, o, m, g⟩ l)) (w : World) (h : Reads w w.heap.size 3 A n (dps l)) :
    Calls Tryd.prog 22 #[.agg #[.int .i64 k, .string (tx t), .int .u64 u, .slice A n c, .int .u64 o, .int .u64 m, .string (tx g)]] w fun e w' => e = .returned (.tuple #[.string { data := #[] }, .int .i64 1]) ∧ Below w.heap.size w w' := by
  have H0 := Lib.hid (one_new w (.cells #[.int .i64 k, .string (tx t), .int .u64 u, .slice A n c, .int .u64 o, .int .u64 m, .string (tx g)] 35))
  have HB0 := Lib.hid ((Below.refl w.heap.size w).alloc (Nat.le_refl _) (.cells #[.int .i64 k, .string (tx t), .int .u64 u, .slice A n c, .int .u64 o, .int .u64 m, .string (tx g)] 35))
  have H1 := Lib.hid h
  have HMAY : Hid (k = 1 → ∀ W, Below w.heap.size w W → Calls Tryd.prog 38 #[.int .i64 3, .agg #[.int .i64 k, .string (tx t), .int .u64 u, .slice A n c, .int .u64 o, .int .u64 m, .string (tx g)]] W fun e w' => e = .returned (.bool false) ∧ Below W.heap.size W w') := fun hk W hW =>
    (rmay_any 3 ⟨k, t, u, o, m, g⟩ A n c l hn hfit W ((H1.out.below hW).more hW.size)).mono fun e w' ⟨ht, hb⟩ => ⟨ht.no (fun hm => hno ⟨hk, hm⟩), hb⟩
  have q0 := at_cell (i := 0) H0.out rfl
  have q1 := at_cell (i := 1) H0.out rfl
  have q2 := at_cell (i := 2) H0.out rfl
  have q3 := at_cell (i := 3) H0.out rfl
  have q4 := at_cell (i := 4) H0.out rfl
  have q5 := at_cell (i := 5) H0.out rfl
  have q6 := at_cell (i := 6) H0.out rfl
  clear h hfit hno hn
  generalize tx t = st at *
  generalize tx g = sg at *
  by_cases hk : k = 1
  · subst hk
    have HM := Lib.hid (HMAY.out rfl)
    clear HMAY
    go_enter Tryd.func22, Tryd.ntmps22
    go_wp2_with fail
    refine (HM.out _ HB0.out).mono ?_
    rintro e w1 ⟨rfl, b1⟩
    have hb1 := HB0.out.trans (b1.mono HB0.out.size)
    clear b1
    go_wp2
    go_ret2
    exact ⟨rfl, hb1⟩
  · have hd : (k == 1) = false := by rw [beq_eq_false_iff_ne]; exact hk
    have hd2 : (k != 1) = true := by rw [bne_iff_ne]; exact hk
    clear HMAY
    go_enter Tryd.func22, Tryd.ntmps22
    go_wp2
    go_ret2
    exact ⟨rfl, HB0.out⟩

/-- What both tell. -/
theorem lines_any (k u o m : Int) (t g : List UInt8) (A : Option Addr) (n c : Nat) (l : List Dp) (hnu : Nums ⟨k, t, u, o, m, g⟩ l) (hfit : Fits ⟨k, t, u, o, m, g⟩ l) (hsm : small ⟨k, t, u, o, m, g⟩ l) (w : World) (h : Reads w w.heap.size 3 A n (dps l)) :
    ∃ (ls : List UInt8) (ec : Int), (∀ b ∈ ls, b ≠ 10) ∧
      (∀ W, Below w.heap.size w W → PowTab W → Calls Tryd.prog 17 #[.agg #[.int .i64 k, .string (tx t), .int .u64 u, .slice A n c, .int .u64 o, .int .u64 m, .string (tx g)]] W fun e w' => e = .returned (.tuple #[.string (tx ls), .int .i64 ec]) ∧ Below W.heap.size W w') ∧
      (∀ W, Below w.heap.size w W → Calls Tryd.prog 22 #[.agg #[.int .i64 k, .string (tx t), .int .u64 u, .slice A n c, .int .u64 o, .int .u64 m, .string (tx g)]] W fun e w' => e = .returned (.tuple #[.string (tx ls), .int .i64 ec]) ∧ Below W.heap.size W w') := by
  have hln : l.length = n := by have := h.1; rw [dps_len] at this; omega
  have hn : n ≤ 1000 := by have := hsm.2.1; omega
  have hrd : ∀ W, Below w.heap.size w W → Reads W W.heap.size 3 A n (dps l) := fun W hW => (h.below hW).more hW.size
  by_cases hok : k = 1 ∧ MayP 3 ⟨k, t, u, o, m, g⟩ l
  · obtain ⟨rfl, hmay⟩ := hok
    obtain ⟨⟨u0, u1⟩, ⟨o0, o1⟩, ⟨m0, m1⟩, hds⟩ := hnu
    simp only at u0 u1 o0 o1 m0 m1
    obtain ⟨zu, rfl⟩ := Int.eq_ofNat_of_zero_le u0
    obtain ⟨zo, rfl⟩ := Int.eq_ofNat_of_zero_le o0
    obtain ⟨zm, rfl⟩ := Int.eq_ofNat_of_zero_le m0
    exact ⟨joinw (linews t zu zo zm g l), 0, line_mem t g zu zo zm l, fun W hW hp => dline_ok zu zo zm t g A n c l (by omega) (by omega) (by omega) hds hmay hfit hsm W hp (hrd W hW), fun W hW => rline_ok zu zo zm t g A n c l (by omega) (by omega) (by omega) hds hmay hfit hsm W (hrd W hW)⟩
  · exact ⟨[], 1, by simp, fun W hW _ => dline_no k u o m t g A n c l hn hfit hok W (hrd W hW), fun W hW => rline_no k u o m t g A n c l hn hfit hok W (hrd W hW)⟩

end Go.Proofs.YtgioknppnfencaaDoor
