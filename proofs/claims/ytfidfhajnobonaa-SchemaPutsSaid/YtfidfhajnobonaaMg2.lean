/- Texts of one proof, one behind the other. -/
import Derived.WalkKit
import Derived.Lib.Hide
import Derived.Shelf.Abstract
import Derived.OwnWalkIn
import Derived.Maps.AppendAt
import Derived.Lib.AppendStr
import Derived.Outline
import Derived.Laws.Bits64b
import Derived.RegionTactic
import Derived.OneCell
import Derived.Handy
import Derived.RangeFuncNested
import Derived.RangeFuncBound
import Derived.RangeFuncCalls
import Derived.RangeFuncLeaves
import Derived.RangeFuncBox
import Derived.Shelf.RegionOpen
import Derived.TacticsInMore
import Derived.LoopNIn
import Derived.LoopIn
import Derived.Laws.CopyOwn
import Derived.Laws.EntriesVeiled
import Derived.Test.YtfidfhajnobonaaProg
import Derived.Test.YtfidfhajnobonaaMg1

/- The plain mathematics of numbers laid one behind the other, and cut off. -/
namespace Go.Proofs.Ytfidfhajnobonaa

/-- Numbers' bytes, one behind the other. -/
def lay : List Nat → List UInt8
  | [] => []
  | n :: l => vb n ++ lay l

theorem lay_append (a b : List Nat) : lay (a ++ b) = lay a ++ lay b := by
  induction a with
  | nil => rfl
  | cons n a ih => simp [lay, ih]

theorem lay_len : ∀ ns : List Nat, (∀ n ∈ ns, n < top) → (lay ns).length ≤ 10 * ns.length
  | [], _ => by simp [lay]
  | n :: l, h => by
    have h1 := vb_len n (h n (by simp))
    have h2 := lay_len l (fun m hm => h m (by simp [hm]))
    simp only [lay, List.length_append, List.length_cons]
    omega

theorem lay_succ {ns : List Nat} {i x : Nat} (h : ns[i]? = some x) : lay (ns.take (i + 1)) = lay (ns.take i) ++ vb x := by
  obtain ⟨hlt, rfl⟩ := List.getElem?_eq_some_iff.1 h
  rw [List.take_succ_eq_append_getElem hlt, lay_append]
  simp [lay]

theorem lay_split {ns : List Nat} {i x : Nat} (h : ns[i]? = some x) : lay ns = lay (ns.take i) ++ (vb x ++ lay (ns.drop (i + 1))) := by
  obtain ⟨hlt, rfl⟩ := List.getElem?_eq_some_iff.1 h
  have h1 : lay (ns.take i ++ ns.drop i) = lay (ns.take i) ++ lay (ns.drop i) := lay_append _ _
  rw [List.take_append_drop] at h1
  rw [h1, List.drop_eq_getElem_cons hlt, lay]

theorem cuts_at {ns : List Nat} {i x en : Nat} (h : ns[i]? = some x) :
    ((lay ns).take en).drop (lay (ns.take i)).length = (vb x ++ lay (ns.drop (i + 1))).take (en - (lay (ns.take i)).length) := by
  rw [lay_split h, List.drop_take]
  simp

theorem cuts_in {ns : List Nat} {i x en : Nat} (h : ns[i]? = some x) (hx : x < top) (hen : (lay (ns.take i)).length + (vb x).length ≤ en) :
    gr 0 0 (((lay ns).take en).drop (lay (ns.take i)).length) = (x, (vb x).length, 0) := by
  rw [cuts_at h, List.take_append]
  rw [List.take_of_length_le (by omega)]
  exact gr_laid0 _ x hx

theorem cuts_out {ns : List Nat} {i x en : Nat} (h : ns[i]? = some x) (hx : x < top) (h1 : (lay (ns.take i)).length ≤ en) (h2 : en < (lay (ns.take i)).length + (vb x).length) :
    gr 0 0 (((lay ns).take en).drop (lay (ns.take i)).length) = (0, 0, 2) := by
  rw [cuts_at h, List.take_append_of_le_length (by omega)]
  exact gr_cut0 x _ hx (by omega)

end Go.Proofs.Ytfidfhajnobonaa

/- The plain mathematics of blobs: a text's bytes with how many they are ahead. No program is named here. -/
namespace Go.Proofs.Ytfidfhajnobonaa

/-- A text's blob. -/
def blob (t : List UInt8) : List UInt8 := vb t.length ++ t

/-- Texts' blobs, one behind the other. -/
def blobs : List (List UInt8) → List UInt8
  | [] => []
  | t :: l => blob t ++ blobs l

theorem blob_len (t : List UInt8) : (blob t).length = (vb t.length).length + t.length := by simp [blob]

theorem blobs_append (a b : List (List UInt8)) : blobs (a ++ b) = blobs a ++ blobs b := by
  induction a with
  | nil => rfl
  | cons n a ih => simp [blobs, ih]

theorem blobs_succ {ts : List (List UInt8)} {i : Nat} {x : List UInt8} (h : ts[i]? = some x) : blobs (ts.take (i + 1)) = blobs (ts.take i) ++ blob x := by
  obtain ⟨hlt, rfl⟩ := List.getElem?_eq_some_iff.1 h
  rw [List.take_succ_eq_append_getElem hlt, blobs_append]
  simp [blobs]

theorem blobs_split {ts : List (List UInt8)} {i : Nat} {x : List UInt8} (h : ts[i]? = some x) : blobs ts = blobs (ts.take i) ++ (blob x ++ blobs (ts.drop (i + 1))) := by
  obtain ⟨hlt, rfl⟩ := List.getElem?_eq_some_iff.1 h
  have h1 : blobs (ts.take i ++ ts.drop i) = blobs (ts.take i) ++ blobs (ts.drop i) := blobs_append _ _
  rw [List.take_append_drop] at h1
  rw [h1, List.drop_eq_getElem_cons hlt, blobs]

theorem blobs_len : ∀ (ts : List (List UInt8)) (m : Nat), m < top → (∀ t ∈ ts, t.length ≤ m) → (blobs ts).length ≤ (10 + m) * ts.length
  | [], _, _, _ => by simp [blobs]
  | t :: l, m, hm, h => by
    have h1 := h t (by simp)
    have h2 := vb_len t.length (by omega)
    have h3 := blobs_len l m hm (fun t' ht => h t' (by simp [ht]))
    simp only [blobs, List.length_append, blob_len, List.length_cons, Nat.mul_add]
    omega

theorem blobs_take_le {ts : List (List UInt8)} (i : Nat) : (blobs (ts.take i)).length ≤ (blobs ts).length := by
  have h1 : blobs (ts.take i ++ ts.drop i) = blobs (ts.take i) ++ blobs (ts.drop i) := blobs_append _ _
  rw [List.take_append_drop] at h1
  rw [h1]; simp

theorem blobs_one_le {ts : List (List UInt8)} {i : Nat} {x : List UInt8} (h : ts[i]? = some x) : (blobs (ts.take i)).length + (blob x).length ≤ (blobs ts).length := by
  rw [blobs_split h]; simp

/-- What is read as a text: its bytes, the place behind, the error. -/
def bg (most : Int) (at_ : Nat) (bs : List UInt8) : List UInt8 × Nat × Nat :=
  let r := gr 0 0 (bs.drop at_)
  if r.2.2 ≠ 0 then ([], 0, r.2.2)
  else if max most 0 < (r.1 : Int) then ([], 0, 5)
  else if bs.length - (at_ + r.2.1) < r.1 then ([], 0, 2)
  else ((bs.drop (at_ + r.2.1)).take r.1, at_ + r.2.1 + r.1, 0)

theorem bg_err {most : Int} {at_ n k e : Nat} {bs : List UInt8} (h : gr 0 0 (bs.drop at_) = (n, k, e)) (he : e ≠ 0) : bg most at_ bs = ([], 0, e) := by
  simp [bg, h, he]
theorem bg_limit {most : Int} {at_ n k : Nat} {bs : List UInt8} (h : gr 0 0 (bs.drop at_) = (n, k, 0)) (hl : max most 0 < (n : Int)) : bg most at_ bs = ([], 0, 5) := by
  simp only [bg, h, ne_eq, not_true_eq_false, if_false, if_pos hl]
theorem bg_short {most : Int} {at_ n k : Nat} {bs : List UInt8} (h : gr 0 0 (bs.drop at_) = (n, k, 0)) (hl : ¬ max most 0 < (n : Int)) (hs : bs.length - (at_ + k) < n) : bg most at_ bs = ([], 0, 2) := by
  simp only [bg, h, ne_eq, not_true_eq_false, if_false, if_neg hl, if_pos hs]
theorem bg_ok {most : Int} {at_ n k : Nat} {bs : List UInt8} (h : gr 0 0 (bs.drop at_) = (n, k, 0)) (hl : ¬ max most 0 < (n : Int)) (hs : ¬ bs.length - (at_ + k) < n) : bg most at_ bs = ((bs.drop (at_ + k)).take n, at_ + k + n, 0) := by
  simp only [bg, h, ne_eq, not_true_eq_false, if_false, if_neg hl, if_neg hs]

/-- What was laid is read, whatever stands ahead and behind. -/
theorem bg_laid (most : Int) (pre t tail : List UInt8) (ht : t.length < top) (hm : (t.length : Int) ≤ max most 0) : bg most pre.length (pre ++ (blob t ++ tail)) = (t, pre.length + (blob t).length, 0) := by
  have h0 : (pre ++ (blob t ++ tail)).drop pre.length = vb t.length ++ (t ++ tail) := by simp [blob]
  have h1 : gr 0 0 ((pre ++ (blob t ++ tail)).drop pre.length) = (t.length, (vb t.length).length, 0) := by rw [h0]; exact gr_laid0 _ _ ht
  rw [bg_ok h1 (by omega) (by simp [blob]; omega)]
  have h2 : (pre ++ (blob t ++ tail)).drop (pre.length + (vb t.length).length) = t ++ tail := by
    rw [← List.drop_drop, h0]; simp
  rw [h2, blob_len]
  simp [Nat.add_assoc]

/-- Cut off within, it is too short. -/
theorem bg_cut (most : Int) (pre t : List UInt8) (j : Nat) (ht : t.length < top) (hm : (t.length : Int) ≤ max most 0) (hj : j < (blob t).length) : bg most pre.length (pre ++ (blob t).take j) = ([], 0, 2) := by
  have h0 : (pre ++ (blob t).take j).drop pre.length = (blob t).take j := by simp
  rw [blob_len] at hj
  rcases Nat.lt_or_ge j (vb t.length).length with h | h
  · have h1 : gr 0 0 ((pre ++ (blob t).take j).drop pre.length) = (0, 0, 2) := by
      rw [h0, blob, List.take_append_of_le_length (by omega)]
      exact gr_cut0 _ _ ht h
    exact bg_err h1 (by decide)
  · have h1 : gr 0 0 ((pre ++ (blob t).take j).drop pre.length) = (t.length, (vb t.length).length, 0) := by
      rw [h0, blob, List.take_append, List.take_of_length_le (by omega)]
      exact gr_laid0 _ _ ht
    refine bg_short h1 (by omega) ?_
    have : ((blob t).take j).length = j := by rw [List.length_take, blob_len]; omega
    rw [List.length_append, this]
    omega

/-- What is read has just the bytes that were read. -/
theorem bg_one {most : Int} {at_ nx : Nat} {bs s : List UInt8} (h : bg most at_ bs = (s, nx, 0)) : at_ < nx ∧ nx ≤ bs.length ∧ blob s = (bs.drop at_).take (nx - at_) := by
  rcases hg : gr 0 0 (bs.drop at_) with ⟨n, k, e⟩
  by_cases he : e = 0
  · subst he
    by_cases hl : max most 0 < (n : Int)
    · rw [bg_limit hg hl] at h; simp at h
    · by_cases hs : bs.length - (at_ + k) < n
      · rw [bg_short hg hl hs] at h; simp at h
      · rw [bg_ok hg hl hs] at h
        obtain ⟨_, hk1, hk2, hv⟩ := gr_ok0 hg
        rw [List.length_drop] at hk2
        simp only [Prod.mk.injEq, and_true] at h
        obtain ⟨rfl, rfl⟩ := h
        refine ⟨by omega, by omega, ?_⟩
        have hlen : ((bs.drop (at_ + k)).take n).length = n := by rw [List.length_take, List.length_drop]; omega
        rw [blob, hlen, hv]
        have e1 : at_ + k + n - at_ = k + n := by omega
        rw [e1, List.take_add, List.drop_drop]
  · rw [bg_err hg he] at h
    simp only [Prod.mk.injEq] at h
    exact absurd h.2.2 he

theorem bg_five {most : Int} {at_ : Nat} {bs : List UInt8} : bg most at_ bs = ([], 0, 2) ∨ bg most at_ bs = ([], 0, 3) ∨ bg most at_ bs = ([], 0, 5) ∨ ∃ s nx, bg most at_ bs = (s, nx, 0) := by
  rcases gr_three (bs.drop at_) 0 0 with h | h | ⟨n, k, h⟩
  · exact .inl (bg_err h (by decide))
  · exact .inr (.inl (bg_err h (by decide)))
  · by_cases hl : max most 0 < (n : Int)
    · exact .inr (.inr (.inl (bg_limit h hl)))
    · by_cases hs : bs.length - (at_ + k) < n
      · exact .inl (bg_short h hl hs)
      · exact .inr (.inr (.inr ⟨_, _, bg_ok h hl hs⟩))

/-- Texts that are laid one behind the other, and cut off: each that is whole is there. -/
theorem blobs_in {most : Int} {pre : List UInt8} {ts : List (List UInt8)} {i en : Nat} {x : List UInt8} (h : ts[i]? = some x) (hx : x.length < top) (hm : (x.length : Int) ≤ max most 0)
    (hen : (pre ++ blobs (ts.take i)).length + (blob x).length ≤ en) : bg most (pre ++ blobs (ts.take i)).length ((pre ++ blobs ts).take en) = (x, (pre ++ blobs (ts.take i)).length + (blob x).length, 0) := by
  have e0 : pre ++ blobs ts = (pre ++ blobs (ts.take i)) ++ (blob x ++ blobs (ts.drop (i + 1))) := by rw [blobs_split h, List.append_assoc]
  rw [e0]
  generalize pre ++ blobs (ts.take i) = q at hen ⊢
  have e1 : (q ++ (blob x ++ blobs (ts.drop (i + 1)))).take en = q ++ (blob x ++ (blobs (ts.drop (i + 1))).take (en - q.length - (blob x).length)) := by
    rw [List.take_append, List.take_of_length_le (by omega), List.take_append, List.take_of_length_le (l := blob x) (by omega)]
  rw [e1]
  exact bg_laid most q x _ hx hm

theorem blobs_out {most : Int} {pre : List UInt8} {ts : List (List UInt8)} {i en : Nat} {x : List UInt8} (h : ts[i]? = some x) (hx : x.length < top) (hm : (x.length : Int) ≤ max most 0)
    (h1 : (pre ++ blobs (ts.take i)).length ≤ en) (h2 : en < (pre ++ blobs (ts.take i)).length + (blob x).length) : bg most (pre ++ blobs (ts.take i)).length ((pre ++ blobs ts).take en) = ([], 0, 2) := by
  have e0 : pre ++ blobs ts = (pre ++ blobs (ts.take i)) ++ (blob x ++ blobs (ts.drop (i + 1))) := by rw [blobs_split h, List.append_assoc]
  rw [e0]
  generalize pre ++ blobs (ts.take i) = q at h1 h2 ⊢
  have e1 : (q ++ (blob x ++ blobs (ts.drop (i + 1)))).take en = q ++ (blob x).take (en - q.length) := by
    rw [List.take_append, List.take_of_length_le (by omega), List.take_append_of_le_length (by omega)]
  rw [e1]
  exact bg_cut most q x _ hx hm (by omega)

/-- Unlike lists have unlike blobs. -/
theorem blobs_inj : ∀ (a b : List (List UInt8)), (∀ t ∈ a, t.length < top) → (∀ t ∈ b, t.length < top) → blobs a = blobs b → a = b
  | [], [], _, _, _ => rfl
  | [], t :: b, _, _, h => by
    have := congrArg List.length h
    have h0 := vb_pos t.length
    simp only [blobs, blob, List.length_append, List.length_nil] at this
    omega
  | t :: a, [], _, _, h => by
    have := congrArg List.length h
    have h0 := vb_pos t.length
    simp only [blobs, blob, List.length_append, List.length_nil] at this
    omega
  | t :: a, u :: b, ha, hb, h => by
    have hgt : gr 0 0 (blob t ++ blobs a) = (t.length, (vb t.length).length, 0) := by
      rw [blob, List.append_assoc]; exact gr_laid0 _ _ (ha t (by simp))
    have hgu : gr 0 0 (blob u ++ blobs b) = (u.length, (vb u.length).length, 0) := by
      rw [blob, List.append_assoc]; exact gr_laid0 _ _ (hb u (by simp))
    have h' : blob t ++ blobs a = blob u ++ blobs b := h
    rw [h', hgu] at hgt
    simp only [Prod.mk.injEq, and_true] at hgt
    have hl : (blob t).length = (blob u).length := by rw [blob_len, blob_len]; omega
    obtain ⟨e1, e2⟩ := List.append_inj h' hl
    have hl2 : (vb t.length).length = (vb u.length).length := by omega
    have e3 := (List.append_inj e1 hl2).2
    rw [e3, blobs_inj a b (fun x hx => ha x (by simp [hx])) (fun x hx => hb x (by simp [hx])) e2]

end Go.Proofs.Ytfidfhajnobonaa

/- The walk of bytes.Clone, and words for texts. -/
namespace Go.Proofs.Ytfidfhajnobonaa
open Go.RowKit Go.Shelf
attribute [local go_sem] Oper.semAt_some

theorem info5k : (Try.prog.info? 5).map (fun i => (i.zero, i.size, i.bytes)) = some (some (.int .u8 0), 1, 1) := by kernel_rfl

/-- A text as a value of Go. -/
def sv (t : List UInt8) : Value := .string (tx t)

theorem strCells_tx (t : List UInt8) : Lib.strCells (tx t) = t.map bv := by simp [Lib.strCells, tx, bv]

set_option maxRecDepth 100000 in
set_option maxHeartbeats 400000 in
theorem clone_some (ad : Addr) (n c B : Nat) (bs : List UInt8) (hn : n ≤ 1073741824) (w : World) (hB : B ≤ w.heap.size) (hr : Reads w B 1 (some ad) n (bs.map bv)) :
    Calls Try.prog 76 #[.slice (some ad) n c] w fun e w' => ∃ v, e = .returned v ∧ w'.ownsRow w.heap.size 5 1 v n (bs.map bv) ∧ Below w.heap.size w w' := by
  obtain ⟨i0, hi, hz0, hz1, hz2⟩ := info_parts info5k
  have hown0 : (w.alloc (.cells #[] 5)).ownsRow w.heap.size 5 1 (.slice (some ⟨w.heap.size, 0, none⟩) 0 0) 0 [] :=
    ⟨rfl, .inr ⟨w.heap.size, 0, #[], rfl, Nat.le_refl _, by show (w.heap.push _)[w.heap.size]? = _; simp, Nat.le_refl _, by unfold maxLen; omega, rfl, rfl⟩⟩
  have he : ∀ w : World, (binOp .eql 44 (.slice (some ad) n c) (.slice none 0 0)).run Try.prog w = .ok (.bool false) w := fun _ => rfl
  have hone := bv_one bs
  obtain ⟨xs, hx⟩ : ∃ xs, xs = bs.map bv := ⟨_, rfl⟩
  rw [← hx] at hr hone ⊢
  clear hx
  go_enter Try.func76, Try.ntmps76
  go_wp2_with (first
    | (at_builtin; refine wpList_append_own _ rfl (.tmp 5) (.tmp 6) 44 rfl w.heap.size 5 i0 (.int .u8 0) 1 1 Try.underlying44 hi hz0 hz1 hz2 rfl (by decide) _ _ _ rfl hown0 ad n c xs rfl hr.1 ?c1 hone (by unfold maxLen; omega) (by omega) (by simp) ?_))
  case c1 =>
    intro j u hu
    have hr' := hr.alloc (o := .cells #[] 5) (w := w) hB
    by_cases h0 : 0 < n
    · obtain ⟨ad', e, _, hc⟩ := hr'.2 h0
      cases e
      exact hc j u hu
    · have hl := hr.1
      have := (List.getElem?_eq_some_iff.1 hu).1
      omega
  intro v' w1 hown' hgrow hnil
  go_wp2
  go_ret
  exact ⟨_, rfl, by simpa using hown', ((Below.refl _ _).alloc (Nat.le_refl _) _).grown hgrow (by simp) (fun k hk => by simp [Value.ownBlock] at hk; omega)⟩

set_option maxRecDepth 100000 in
set_option maxHeartbeats 400000 in
theorem clone_none (c : Nat) (w : World) :
    Calls Try.prog 76 #[.slice none 0 c] w fun e w' => e = .returned (.slice none 0 0) ∧ w = w' := by
  have he : ∀ w : World, (binOp .eql 44 (.slice none 0 c) (.slice none 0 0)).run Try.prog w = .ok (.bool true) w := fun _ => rfl
  go_enter Try.func76, Try.ntmps76
  go_wp2
  go_ret
  exact ⟨rfl, rfl⟩

/-- bytes.Clone: the same bytes, in memory of the call's own. -/
theorem clone_any (A : Option Addr) (n c B : Nat) (bs : List UInt8) (hn : n ≤ 1073741824) (w : World) (hB : B ≤ w.heap.size) (hr : Reads w B 1 A n (bs.map bv)) :
    Calls Try.prog 76 #[.slice A n c] w fun e w' => ∃ v, e = .returned v ∧ w'.ownsRow w.heap.size 5 1 v n (bs.map bv) ∧ Below w.heap.size w w' := by
  cases A with
  | some ad => exact clone_some ad n c B bs hn w hB hr
  | none =>
    have h0 : n = 0 := by
      rcases Nat.eq_zero_or_pos n with h | h
      · exact h
      · obtain ⟨ad, e, _⟩ := hr.2 h
        cases e
    subst h0
    have hb : bs = [] := List.eq_nil_of_length_eq_zero (by have := hr.1; simpa using this)
    subst hb
    refine (clone_none c w).mono ?_
    rintro e w' ⟨rfl, rfl⟩
    exact ⟨_, rfl, ⟨rfl, .inl ⟨rfl, rfl⟩⟩, Below.refl _ _⟩

theorem text_at {ts : List (List UInt8)} {i : Nat} {u : Value} (h : (ts.map sv)[i]? = some u) : ∃ x, u = .string (tx x) ∧ ts[i]? = some x := by
  rw [List.getElem?_map] at h
  obtain ⟨x, hx, rfl⟩ := Option.map_eq_some_iff.1 h
  exact ⟨x, rfl, hx⟩

theorem reads_text (W : World) (e : TypeId) (t : List UInt8) : Reads (W.alloc (.cells #[sv t] e)) (W.heap.size + 1) 1 (some ⟨W.heap.size, 0, none⟩) 1 ([t].map sv) :=
  ⟨rfl, fun _ => ⟨_, rfl, by simp, fun j u hu => by
    cases j with
    | zero =>
      have hu' : sv t = u := by simpa using hu
      subst hu'
      simp [Addr.add]
    | succ j => simp at hu⟩⟩

end Go.Proofs.Ytfidfhajnobonaa

/- The walks of varint.mayStand and of varint.Get: at every list of bytes and every place. -/
namespace Go.Proofs.Ytfidfhajnobonaa
open Go.RowKit Go.Shelf

set_option maxHeartbeats 400000 in
theorem vmay_any (i x : Nat) (hi : i ≤ 9) (w : World) :
    Calls Try.prog 98 #[.int .i64 (i : Int), .int .u8 (x : Int)] w fun e w' => e = .returned (.bool (decide (¬ (i = 9 ∧ 1 < x) ∧ (i = 0 ∨ x ≠ 0)))) ∧ w = w' := by
  by_cases h1 : i = 9
  · subst h1
    by_cases h2 : 1 < x
    · go_enter Try.func98, Try.ntmps98
      go_wp2
      go_ret
      exact ⟨by simp [h2], rfl⟩
    · have h3 : ¬ (1 < (x : Int)) := by omega
      by_cases h0 : x = 0
      · subst h0
        go_enter Try.func98, Try.ntmps98
        go_wp2
        go_ret
        exact ⟨by simp, rfl⟩
      · have h4 : ((x : Int) == 0) = false := by simpa using h0
        have h5 : ((x : Int) != 0) = true := by simpa using h0
        go_enter Try.func98, Try.ntmps98
        go_wp2
        go_ret
        exact ⟨by simp, rfl⟩
  · have h9 : ((i : Int) == 9) = false := by simpa using (by omega : ¬ (i : Int) = 9)
    by_cases hi0 : i = 0
    · subst hi0
      go_enter Try.func98, Try.ntmps98
      go_wp2
      go_ret
      exact ⟨by simp, rfl⟩
    · have hz : ((i : Int) == 0) = false := by simpa using hi0
      by_cases h0 : x = 0
      · subst h0
        go_enter Try.func98, Try.ntmps98
        go_wp2
        go_ret
        exact ⟨by simp [h1, hi0], rfl⟩
      · have h5 : ((x : Int) != 0) = true := by simpa using h0
        go_enter Try.func98, Try.ntmps98
        go_wp2
        go_ret
        exact ⟨by simp [h1, h0], rfl⟩

theorem may_yes (i x : Nat) (hi : i ≤ 9) (h : ¬ (i = 9 ∧ 1 < x) ∧ (i = 0 ∨ x ≠ 0)) (w : World) :
    Calls Try.prog 98 #[.int .i64 (i : Int), .int .u8 (x : Int)] w fun e w' => e = .returned (.bool true) ∧ w = w' :=
  (vmay_any i x hi w).mono fun _ _ ⟨he, hw⟩ => ⟨by rw [he, decide_eq_true h], hw⟩
theorem may_no (i x : Nat) (hi : i ≤ 9) (h : ¬ (¬ (i = 9 ∧ 1 < x) ∧ (i = 0 ∨ x ≠ 0))) (w : World) :
    Calls Try.prog 98 #[.int .i64 (i : Int), .int .u8 (x : Int)] w fun e w' => e = .returned (.bool false) ∧ w = w' :=
  (vmay_any i x hi w).mono fun _ _ ⟨he, hw⟩ => ⟨by rw [he, decide_eq_false h], hw⟩

theorem or_add (a x k : Nat) (ha : a < 2 ^ k) : a ||| (x * 2 ^ k) = a + x * 2 ^ k := by
  have := Nat.two_pow_add_eq_or_of_lt ha x
  rw [Nat.or_comm, Nat.mul_comm, ← this, Nat.add_comm]

/-- 'n |= uint64(c%128) << (7*i)', n below what the bits reach: a sum. -/
theorem or_shift (a v i : Nat) (hi : i ≤ 9) (ha : a < 128 ^ i) (hv : i = 9 → v ≤ 1) :
    bits BinOp.or IntKind.u64 (a : Int) (IntKind.u64.wrap ((v : Int) % 128 * 2 ^ (7 * i))) = ((a + v % 128 * 128 ^ i : Nat) : Int) := by
  have e : (128 : Nat) ^ i = 2 ^ (7 * i) := by rw [show (128 : Nat) = 2 ^ 7 by rfl, ← Nat.pow_mul]
  rw [e] at ha ⊢
  have hx : v % 128 * 2 ^ (7 * i) < 18446744073709551616 := by
    by_cases h9 : i = 9
    · subst h9
      have := hv rfl
      have : v % 128 ≤ 1 := by omega
      have h2 : v % 128 * 2 ^ (7 * 9) ≤ 1 * 2 ^ (7 * 9) := Nat.mul_le_mul_right _ this
      omega
    · have h1 : 2 ^ (7 * i) ≤ 2 ^ 56 := Nat.pow_le_pow_right (by omega) (by omega)
      have h2 : v % 128 * 2 ^ (7 * i) ≤ 127 * 2 ^ 56 := Nat.mul_le_mul (by omega) h1
      omega
  have ha2 : a < 18446744073709551616 := by
    have h1 : 2 ^ (7 * i) ≤ 2 ^ 63 := Nat.pow_le_pow_right (by omega) (by omega)
    omega
  have ew : IntKind.u64.wrap ((v : Int) % 128 * 2 ^ (7 * i)) = ((v % 128 * 2 ^ (7 * i) : Nat) : Int) := by
    have e1 : ((v : Int) % 128 * 2 ^ (7 * i)) = ((v % 128 * 2 ^ (7 * i) : Nat) : Int) := by push_cast; rfl
    rw [e1, IntKind.wrap_u64]
    omega
  rw [ew, bits_or_u64_nat _ _ ha2 hx, or_add _ _ _ ha]

theorem byte_get {ys : List UInt8} {i : Nat} {u : Value} (h : (ys.map bv)[i]? = some u) : ∃ x : UInt8, u = .int .u8 (x.toNat : Int) ∧ ys[i]? = some x := by
  rw [List.getElem?_map] at h
  obtain ⟨x, hx, rfl⟩ := Option.map_eq_some_iff.1 h
  exact ⟨_, rfl, hx⟩

/-- The place behind what was read. -/
def gnext (at_ : Nat) (r : Nat × Nat × Nat) : Nat := if r.2.2 = 0 then at_ + r.2.1 else 0
/-- What Get answers. -/
def gres (at_ : Nat) (r : Nat × Nat × Nat) : Value := .tuple #[.int .u64 (r.1 : Int), .int .i64 (gnext at_ r : Int), .int .i64 (r.2.2 : Int)]

/-- A byte of a slice of bytes, and what stands from there on. -/
theorem byte_at {ys : List UInt8} {i : Nat} {u : Value} (h : (ys.map bv)[i]? = some u) : ∃ x : UInt8, u = .int .u8 (x.toNat : Int) ∧ ys.drop i = x :: ys.drop (i + 1) := by
  rw [List.getElem?_map] at h
  obtain ⟨x, hx, rfl⟩ := Option.map_eq_some_iff.1 h
  obtain ⟨hlt, rfl⟩ := List.getElem?_eq_some_iff.1 hx
  exact ⟨_, rfl, List.drop_eq_getElem_cons hlt⟩

set_option maxRecDepth 100000 in
set_option maxHeartbeats 400000 in
theorem get_bad (A : Option Addr) (n c : Nat) (at_ : Int) (h : at_ < 0 ∨ (n : Int) < at_) (w : World) :
    Calls Try.prog 91 #[.slice A n c, .int .i64 at_] w fun e w' => e = .returned (.tuple #[.int .u64 0, .int .i64 0, .int .i64 1]) ∧ w = w' := by
  by_cases h0 : at_ < 0
  · go_enter Try.func91, Try.ntmps91
    go_wp2
    go_ret3
    exact ⟨rfl, rfl⟩
  · have h1 : (n : Int) < at_ := by omega
    clear h
    go_enter Try.func91, Try.ntmps91
    go_wp2
    go_ret3
    exact ⟨rfl, rfl⟩

/-- At the head of a round of Get's loop. -/
def GRel (m : Nat) (r : Nat × Nat × Nat) (ys : List UInt8) (acc idx : Value) : Prop :=
  ∃ i a : Nat, i ≤ m ∧ i ≤ 9 ∧ idx = .int .i64 (i : Int) ∧ acc = .int .u64 (a : Int) ∧ r = gr i a (ys.drop i) ∧ a < 128 ^ i

set_option maxRecDepth 100000 in
set_option maxHeartbeats 400000 in
theorem get_on (A : Option Addr) (n c at_ B : Nat) (ys : List UInt8) (hc : ¬ c = at_) (hn : n ≤ 1073741824) (hat : at_ ≤ n) (w : World) (hr : Reads w B 1 (A.map (fun x => x.add at_)) (n - at_) (ys.map bv)) :
    Calls Try.prog 91 #[.slice A n c, .int .i64 (at_ : Int)] w fun e w' => e = .returned (gres at_ (gr 0 0 ys)) ∧ w = w' := by
  obtain ⟨A', hA⟩ : ∃ A', A' = A.map (fun x => x.add at_) := ⟨_, rfl⟩
  rw [← hA] at hr
  have HA := Lib.hid hA
  clear hA
  obtain ⟨m, hm⟩ : ∃ m, m = n - at_ := ⟨_, rfl⟩
  rw [← hm] at hr
  have HM := Lib.hid hm
  clear hm
  obtain ⟨r, hr0⟩ : ∃ r, r = gr 0 0 ys := ⟨_, rfl⟩
  rw [← hr0]
  have HR := Lib.hid hr0
  clear hr0
  have hd1 : decide ((at_ : Int) < 0) = false := decide_eq_false (by omega)
  have hd2 : decide (n < at_) = false := decide_eq_false (by omega)
  go_enter Try.func91, Try.ntmps91
  go_wp2
  rw [← HA.out, ← HM.out]
  go_loop [4, 21] (fun acc idx => GRel m r ys acc idx) (fun _ idx => m - (intOf idx).toNat)
  case atStart => exact ⟨0, 0, by omega, by omega, rfl, rfl, HR.out, by simp⟩
  case round =>
    obtain ⟨i, a, him, hi9, rfl, rfl, hG, hL⟩ := hrel
    have HG := Lib.hid hG
    have HL := Lib.hid hL
    clear hG hL
    by_cases hlt : i < m
    · obtain ⟨ad, u, rfl, _, hx, hcell⟩ := hr.at_ hlt
      obtain ⟨x, rfl, hd⟩ := byte_at hx
      obtain ⟨v, hv⟩ : ∃ v, v = x.toNat := ⟨_, rfl⟩
      have hv256 : v < 256 := by rw [hv]; exact x.toNat_lt
      have HG' : Hid (r = gr i a (x :: ys.drop (i + 1))) := by rw [← hd]; exact HG.out
      clear HG hd hx
      rw [← hv] at hcell
      have HV := Lib.hid hv
      clear hv
      by_cases hb : ¬ (i = 9 ∧ 1 < v) ∧ (i = 0 ∨ v ≠ 0)
      · have HB := Lib.hid hb
        clear hb
        by_cases h128 : v < 128
        · go_wp2_with (go_at_call 98; refine (may_yes i v hi9 HB.out _).mono ?_; rintro e w' ⟨rfl, rfl⟩)
          go_ret3
          have hr' : r = (a + v * 128 ^ i, i + 1, 0) := by rw [HG'.out, HV.out, gr_last (by rw [← HV.out]; exact HB.out) (by rw [← HV.out]; exact h128)]
          have hor := or_shift a v i hi9 HL.out (fun h9 => by have := HB.out.1; omega)
          rw [Nat.mod_eq_of_lt h128] at hor
          exact ⟨by rw [hor, hr', gres, gnext]; simp [Int.add_assoc], rfl⟩
        · have hor := or_shift a v i hi9 HL.out (fun h9 => by have := HB.out.1; omega)
          have HOR := Lib.hid hor
          clear hor
          have hi8 : i ≤ 8 := by have := HB.out.1; omega
          have HG2 : Hid (r = gr (i + 1) (a + v % 128 * 128 ^ i) (ys.drop (i + 1))) := by
            show r = _
            rw [HG'.out, HV.out, gr_on (by rw [← HV.out]; exact HB.out) (by rw [← HV.out]; exact h128)]
          have HL2 : Hid (a + v % 128 * 128 ^ i < 128 ^ (i + 1)) := by
            show _ < _
            have h1 := HL.out
            have h2 : v % 128 * 128 ^ i ≤ 127 * 128 ^ i := Nat.mul_le_mul_right _ (by omega)
            rw [Nat.pow_succ]; omega
          go_wp2_with (go_at_call 98; refine (may_yes i v hi9 HB.out _).mono ?_; rintro e w' ⟨rfl, rfl⟩)
          rw [HOR.out]
          go_round
          case rel => exact ⟨i + 1, _, by omega, by omega, by go_num, rfl, HG2.out, HL2.out⟩
          case measure => simp [intOf]; omega
      · have hr' : Hid (r = (0, 0, 3)) := by
          show r = _
          rw [HG'.out, gr_bad (by rw [← HV.out]; exact hb)]
        have HB := Lib.hid hb
        clear hb
        go_wp2_with (go_at_call 98; refine (may_no i v hi9 HB.out _).mono ?_; rintro e w' ⟨rfl, rfl⟩)
        go_ret3
        exact ⟨by rw [hr'.out]; rfl, rfl⟩
    · obtain rfl : i = m := by omega
      have hd : ys.drop i = [] := List.drop_eq_nil_of_le (by have := hr.1; simp at this; omega)
      have hr' : Hid (r = (0, 0, 2)) := by
        show r = _
        rw [HG.out, hd, gr]
      clear hd HG
      go_wp2
      go_ret3
      exact ⟨by rw [hr'.out]; rfl, rfl⟩

set_option maxRecDepth 100000 in
set_option maxHeartbeats 400000 in
theorem get_end (A : Option Addr) (n : Nat) (hn : n ≤ 1073741824) (w : World) :
    Calls Try.prog 91 #[.slice A n n, .int .i64 (n : Int)] w fun e w' => e = .returned (gres n (gr 0 0 [])) ∧ w = w' := by
  have hd1 : decide ((n : Int) < 0) = false := decide_eq_false (by omega)
  have hd2 : decide (n < n) = false := decide_eq_false (by omega)
  go_enter Try.func91, Try.ntmps91
  go_wp2
  go_loop [21] (fun idx => idx = .int .i64 0) (fun idx => 0)
  case atStart => rfl
  case round =>
    obtain rfl := hrel
    go_wp2
    go_ret3
    exact ⟨rfl, rfl⟩

/-- **Get, at every list of bytes and every place of it.** -/
theorem get_any (A : Option Addr) (n c at_ B : Nat) (bs : List UInt8) (hc : n ≤ c) (hn : n ≤ 1073741824) (hat : at_ ≤ n) (w : World) (hr : Reads w B 1 A n (bs.map bv)) :
    Calls Try.prog 91 #[.slice A n c, .int .i64 (at_ : Int)] w fun e w' => e = .returned (gres at_ (gr 0 0 (bs.drop at_))) ∧ w = w' := by
  by_cases h : c = at_
  · obtain rfl : c = n := by omega
    obtain rfl : at_ = c := h.symm
    have : bs.drop at_ = [] := List.drop_eq_nil_of_le (by have := hr.1; simp at this; omega)
    rw [this]
    exact get_end A at_ hn w
  · refine get_on A n c at_ B (bs.drop at_) h hn hat w ?_
    have := hr.cut (cap := c) hat hc
    rw [if_neg h, Nat.mul_one, ← List.map_drop] at this
    exact this

end Go.Proofs.Ytfidfhajnobonaa

/- The mathematics of cursors: what is taken, and where it stands then. No program is named here. -/
namespace Go.Proofs.Ytfidfhajnobonaa

structure Cu where
  bs : List UInt8
  at_ : Nat
  e : Int

namespace Cu

def fail (c : Cu) (e : Int) : Cu := if c.e = 0 then { c with e := e } else c

/-- One thing is taken: r is what stands there, the place behind it, and an error's number. -/
def tk {α : Type} (zero : α) (c : Cu) (r : α × Nat × Nat) : α × Cu :=
  if c.e = 0 then (if r.2.2 = 0 then (r.1, { c with at_ := r.2.1 }) else (zero, { c with e := (r.2.2 : Int) })) else (zero, c)

def byR (c : Cu) : UInt8 × Nat × Nat := match c.bs.drop c.at_ with
  | [] => (0, 0, 2)
  | x :: _ => (x, c.at_ + 1, 0)
def nuR (c : Cu) : Nat × Nat × Nat := ((gr 0 0 (c.bs.drop c.at_)).1, gnext c.at_ (gr 0 0 (c.bs.drop c.at_)), (gr 0 0 (c.bs.drop c.at_)).2.2)
def txR (c : Cu) (most : Int) : List UInt8 × Nat × Nat := bg most c.at_ c.bs

def byte (c : Cu) : UInt8 × Cu := tk 0 c c.byR
def num (c : Cu) : Nat × Cu := tk 0 c c.nuR
def text (c : Cu) (most : Int) : List UInt8 × Cu := tk [] c (c.txR most)

def cnt (c : Cu) (most : Int) : Nat × Cu := if max most 0 < (c.num.1 : Int) then (0, c.num.2.fail 5) else (c.num.1, c.num.2)

def many {α : Type} (one : Cu → α × Cu) : Nat → Cu → List α × Cu
  | 0, c => ([], c)
  | k + 1, c => if c.e = 0 then ((one c).1 :: (many one k (one c).2).1, (many one k (one c).2).2) else ([], c)

def all {α : Type} (one : Cu → α × Cu) (c : Cu) (most : Int) : List α × Cu :=
  (if (many one (c.cnt most).1 (c.cnt most).2).2.e = 0 then (many one (c.cnt most).1 (c.cnt most).2).1 else [], (many one (c.cnt most).1 (c.cnt most).2).2)

def nums (c : Cu) (most : Int) : List Nat × Cu := all num c most
def txt (each : Int) (c : Cu) : List UInt8 × Cu := c.text each
def texts (c : Cu) (most each : Int) : List (List UInt8) × Cu := all (txt each) c most

/-- It may be: its place isn't beyond. -/
def ok (c : Cu) : Prop := c.at_ ≤ c.bs.length

/-- From one cursor another came: the same bytes, a place that isn't ahead of it and isn't beyond; and what has failed stays as it is. -/
structure To (c d : Cu) : Prop where
  bs : d.bs = c.bs
  le : c.at_ ≤ d.at_
  ok : d.at_ ≤ c.bs.length
  stay : c.e ≠ 0 → d = c

theorem To.refl {c : Cu} (h : c.ok) : To c c := ⟨rfl, Nat.le_refl _, h, fun _ => rfl⟩
theorem To.trans {a b c : Cu} (h : To a b) (k : To b c) : To a c :=
  ⟨k.bs.trans h.bs, Nat.le_trans h.le k.le, by rw [← h.bs]; exact k.ok, fun he => by
    have h1 := h.stay he
    subst h1
    exact k.stay he⟩
theorem To.good {c d : Cu} (h : To c d) : d.ok := by
  have := h.ok
  rwa [← h.bs] at this

theorem fail_to {c : Cu} (h : c.ok) (e : Int) : To c (c.fail e) := by
  unfold fail
  split
  · rename_i h0
    exact ⟨rfl, Nat.le_refl _, h, fun h1 => absurd h0 h1⟩
  · exact To.refl h

theorem tk_to {α : Type} {zero : α} {c : Cu} {r : α × Nat × Nat} (h : c.ok) (hr : r.2.2 = 0 → c.at_ ≤ r.2.1 ∧ r.2.1 ≤ c.bs.length) : To c (tk zero c r).2 := by
  unfold tk
  split
  · rename_i h0
    split
    · rename_i h1
      exact ⟨rfl, (hr h1).1, (hr h1).2, fun h2 => absurd h0 h2⟩
    · exact ⟨rfl, Nat.le_refl _, h, fun h2 => absurd h0 h2⟩
  · exact To.refl h

theorem byR_in {c : Cu} (hb : c.ok) : c.byR.2.2 = 0 → c.at_ < c.byR.2.1 ∧ c.byR.2.1 ≤ c.bs.length := by
  intro h
  unfold byR at *
  split at h
  · cases h
  · rename_i x l hx
    have := congrArg List.length hx
    simp at this
    unfold ok at hb
    exact ⟨by simp, by simp only; omega⟩
theorem nuR_in {c : Cu} (hb : c.ok) : c.nuR.2.2 = 0 → c.at_ < c.nuR.2.1 ∧ c.nuR.2.1 ≤ c.bs.length := by
  intro h
  unfold nuR at *
  simp only at *
  obtain ⟨n, k, hg⟩ : ∃ n k, gr 0 0 (c.bs.drop c.at_) = (n, k, 0) := by
    rcases gr_three (c.bs.drop c.at_) 0 0 with hg | hg | hg
    · rw [hg] at h; cases h
    · rw [hg] at h; cases h
    · exact hg
  obtain ⟨_, h1, h2, _⟩ := gr_ok0 hg
  rw [hg, gnext, if_pos rfl]
  rw [List.length_drop] at h2
  unfold ok at hb
  exact ⟨by simp only; omega, by simp only; omega⟩
theorem txR_in {c : Cu} (most : Int) : (c.txR most).2.2 = 0 → c.at_ < (c.txR most).2.1 ∧ (c.txR most).2.1 ≤ c.bs.length := by
  intro h
  unfold txR at *
  obtain ⟨s, nx, hg⟩ : ∃ s nx, bg most c.at_ c.bs = (s, nx, 0) := by
    rcases bg_five (most := most) (at_ := c.at_) (bs := c.bs) with hg | hg | hg | hg
    · rw [hg] at h; cases h
    · rw [hg] at h; cases h
    · rw [hg] at h; cases h
    · exact hg
  have := bg_one hg
  rw [hg]
  exact ⟨this.1, this.2.1⟩

theorem byte_to {c : Cu} (h : c.ok) : To c c.byte.2 := tk_to h fun h1 => ⟨Nat.le_of_lt (byR_in h h1).1, (byR_in h h1).2⟩
theorem num_to {c : Cu} (h : c.ok) : To c c.num.2 := tk_to h fun h1 => ⟨Nat.le_of_lt (nuR_in h h1).1, (nuR_in h h1).2⟩
theorem text_to {c : Cu} (h : c.ok) (most : Int) : To c (c.text most).2 := tk_to h fun h1 => ⟨Nat.le_of_lt (txR_in most h1).1, (txR_in most h1).2⟩

theorem tk_e {α : Type} {zero : α} {c : Cu} {r : α × Nat × Nat} (h : c.e ≠ 0) : tk zero c r = (zero, c) := by rw [tk, if_neg h]

/-- A step forward, if it took. -/
theorem tk_on {α : Type} {zero : α} {c : Cu} {r : α × Nat × Nat} (h0 : c.e = 0) (hr : r.2.2 = 0 → c.at_ < r.2.1) (h : (tk zero c r).2.e = 0) : c.at_ < (tk zero c r).2.at_ := by
  unfold tk at *
  rw [if_pos h0] at *
  split
  · rename_i h1
    exact hr h1
  · rename_i h1
    rw [if_neg h1] at h
    simp only at h
    omega

theorem num_lt {c : Cu} : c.num.1 < top := by
  unfold num tk
  split
  · split
    · rename_i h1
      unfold nuR at *
      simp only at *
      rcases gr_three (c.bs.drop c.at_) 0 0 with hg | hg | ⟨n, k, hg⟩
      · rw [hg]; decide
      · rw [hg]; decide
      · rw [hg]; exact (gr_ok0 hg).1
    · exact (by decide : 0 < top)
  · exact (by decide : 0 < top)

theorem num_bad {c : Cu} (h : c.num.2.e ≠ 0) : c.num.1 = 0 := by
  unfold num tk at *
  split
  · rename_i h0
    split
    · rename_i h1
      rw [if_pos h0, if_pos h1] at h
      exact absurd h0 h
    · rfl
  · rfl

theorem cnt_to {c : Cu} (h : c.ok) (most : Int) : To c (c.cnt most).2 := by
  unfold cnt
  split
  · exact (num_to h).trans (fail_to (num_to h).good 5)
  · exact num_to h

/-- One thing after the other: so many are left, from the cursor d on, behind the list l. -/
theorem many_to {α : Type} {one : Cu → α × Cu} (h1 : ∀ c : Cu, c.ok → To c (one c).2) : ∀ (k : Nat) (c : Cu), c.ok → To c (many one k c).2
  | 0, c, h => To.refl h
  | k + 1, c, h => by
    unfold many
    split
    · exact (h1 c h).trans (many_to h1 k _ (h1 c h).good)
    · exact To.refl h

theorem many_stop {α : Type} {one : Cu → α × Cu} {k : Nat} {c : Cu} (h : c.e ≠ 0) : many one k c = ([], c) := by
  cases k with
  | zero => rfl
  | succ k => rw [many, if_neg h]
theorem many_next {α : Type} {one : Cu → α × Cu} {k : Nat} {c : Cu} (h : c.e = 0) : many one (k + 1) c = ((one c).1 :: (many one k (one c).2).1, (many one k (one c).2).2) := by
  rw [many, if_pos h]

theorem all_to {α : Type} {one : Cu → α × Cu} (h1 : ∀ c : Cu, c.ok → To c (one c).2) {c : Cu} (h : c.ok) (most : Int) : To c (all one c most).2 :=
  (cnt_to h most).trans (many_to h1 _ _ (cnt_to h most).good)

theorem nums_to {c : Cu} (h : c.ok) (most : Int) : To c (c.nums most).2 := all_to (fun _ h => num_to h) h most
theorem texts_to {c : Cu} (h : c.ok) (most each : Int) : To c (c.texts most each).2 := all_to (fun _ h => text_to h each) h most

end Cu
end Go.Proofs.Ytfidfhajnobonaa

/- A cursor in memory; the walks of Fail, Err, At and Left. -/
namespace Go.Proofs.Ytfidfhajnobonaa
open Go.RowKit

/-- From w to w' nothing of what was there has turned but block b. -/
structure Only (b : Nat) (w w' : World) : Prop where
  os : w'.os = w.os
  tape : w'.tape = w.tape
  output : w'.output = w.output
  size : w.heap.size ≤ w'.heap.size
  block : ∀ k, k < w.heap.size → k ≠ b → w'.heap[k]? = w.heap[k]?

theorem Only.refl (b : Nat) (w : World) : Only b w w := ⟨rfl, rfl, rfl, Nat.le_refl _, fun _ _ _ => rfl⟩
theorem Only.trans {b : Nat} {x y z : World} (h : Only b x y) (k : Only b y z) : Only b x z :=
  ⟨k.os.trans h.os, k.tape.trans h.tape, k.output.trans h.output, Nat.le_trans h.size k.size, fun i hi hn => (k.block i (Nat.lt_of_lt_of_le hi h.size) hn).trans (h.block i hi hn)⟩
theorem Only.of_below {b : Nat} {w w' : World} (h : Below w.heap.size w w') : Only b w w' := ⟨h.os, h.tape, h.output, h.size, fun k hk _ => h.block k hk⟩
theorem Only.setCell {b i : Nat} {w : World} (u : Value) : Only b w (w.setCell ⟨b, i, none⟩ u) :=
  ⟨rfl, rfl, rfl, by simp [World.setCell], fun _ _ hn => Below.heap_setCell _ _ _ _ hn⟩
theorem Only.below {b B : Nat} {w w' : World} (h : Only b w w') (hB : B ≤ b) (hw : B ≤ w.heap.size) : Below B w w' :=
  ⟨h.os, h.tape, h.output, h.size, fun k hk => h.block k (by omega) (by omega)⟩
/-- A block of the call's own that was made on the way is of no account. -/
theorem Only.fresh {b : Nat} {w w1 w2 : World} (h : Below w.heap.size w w1) (hb : w.heap.size ≤ b) (k : Only b w1 w2) : Below w.heap.size w w2 :=
  h.trans (k.below hb h.size)

theorem cfield_cell {w : World} {b i : Nat} {cs : Array Value} {t : TypeId} {u : Value} (h : w.heap[b]? = some (.cells cs t (0, 0))) (hi : cs[i]? = some u) : w.cell? ⟨b, i, none⟩ = some u := by
  simp [World.cell?, h, hi]
theorem cfield_free {w : World} {b i : Nat} {cs : Array Value} {t : TypeId} (h : w.heap[b]? = some (.cells cs t (0, 0))) : w.frozen? ⟨b, i, none⟩ = false := by
  simp [World.frozen?, h]

def cuCells (A : Option Addr) (n cap : Nat) (c : Cu) : Array Value := #[.slice A n cap, .int .i64 (c.at_ : Int), .int .i64 c.e]

/-- A cursor lies in block b, its bytes below block B. -/
structure CurIn (w : World) (B b : Nat) (c : Cu) : Prop where
  ok : c.ok
  room : c.bs.length ≤ 1000000
  le : B ≤ b
  lies : ∃ A n cap, n ≤ cap ∧ Reads w B 1 A n (c.bs.map bv) ∧ w.heap[b]? = some (.cells (cuCells A n cap c) 120 (0, 0))

theorem CurIn.lt {w : World} {B b : Nat} {c : Cu} (h : CurIn w B b c) : b < w.heap.size := by
  obtain ⟨A, n, cap, _, _, h1⟩ := h.lies
  exact lt_of_block h1
theorem CurIn.below {w w' : World} {B b D : Nat} {c : Cu} (h : CurIn w B b c) (hb : Below D w w') (hD : b < D) : CurIn w' B b c := by
  obtain ⟨A, n, cap, h0, h1, h2⟩ := h.lies
  exact ⟨h.ok, h.room, h.le, A, n, cap, h0, h1.below (hb.mono (by have := h.le; omega)), (hb.block b hD).trans h2⟩
/-- Another block of the call's own turns: the cursor stays. -/
theorem CurIn.only {w w' : World} {B b d : Nat} {c : Cu} (h : CurIn w B b c) (hb : Only d w w') (hd : B ≤ d) (hn : b ≠ d) : CurIn w' B b c := by
  have hlt := h.lt
  obtain ⟨A, n, cap, h0, h1, h2⟩ := h.lies
  exact ⟨h.ok, h.room, h.le, A, n, cap, h0, h1.below (hb.below hd (by have := h.le; omega)), (hb.block b hlt hn).trans h2⟩

theorem CurIn.cells {w : World} {B b : Nat} {c : Cu} (h : CurIn w B b c) : ∃ A n cap, n ≤ cap ∧ c.bs.length = n ∧ Reads w B 1 A n (c.bs.map bv) ∧ w.cell? ⟨b, 0, none⟩ = some (.slice A n cap) ∧
    w.cell? ⟨b, 1, none⟩ = some (.int .i64 (c.at_ : Int)) ∧ w.cell? ⟨b, 2, none⟩ = some (.int .i64 c.e) ∧ w.frozen? ⟨b, 1, none⟩ = false ∧ w.frozen? ⟨b, 2, none⟩ = false := by
  obtain ⟨A, n, cap, h0, h1, h2⟩ := h.lies
  exact ⟨A, n, cap, h0, by have := h1.1; simpa using this, h1, cfield_cell h2 rfl, cfield_cell h2 rfl, cfield_cell h2 rfl, cfield_free h2, cfield_free h2⟩

theorem CurIn.setE {w : World} {B b : Nat} {c : Cu} (h : CurIn w B b c) (e : Int) : CurIn (w.setCell ⟨b, 2, none⟩ (.int .i64 e)) B b { c with e := e } := by
  obtain ⟨A, n, cap, h0, h1, h2⟩ := h.lies
  exact ⟨h.ok, h.room, h.le, A, n, cap, h0, h1.setCell (p := ⟨b, 2, none⟩) h.le _, heap_setCell_same _ _ 2 _ _ _ h2⟩
theorem CurIn.setAt {w : World} {B b : Nat} {c : Cu} (h : CurIn w B b c) (at_ : Nat) (hat : at_ ≤ c.bs.length) : CurIn (w.setCell ⟨b, 1, none⟩ (.int .i64 (at_ : Int))) B b { c with at_ := at_ } := by
  obtain ⟨A, n, cap, h0, h1, h2⟩ := h.lies
  exact ⟨hat, h.room, h.le, A, n, cap, h0, h1.setCell (p := ⟨b, 1, none⟩) h.le _, heap_setCell_same _ _ 1 _ _ _ h2⟩

theorem fail_any (B b : Nat) (c : Cu) (e0 : Int) (w : World) (h : CurIn w B b c) :
    Calls Try.prog 77 #[.pointer (some ⟨b, 0, none⟩), .int .i64 e0] w fun e w' => e = .returned (.tuple #[]) ∧ CurIn w' B b (c.fail e0) ∧ Only b w w' := by
  obtain ⟨A, n, cap, _, _, _, _, _, f2, _, z2⟩ := h.cells
  have hs := h.setE e0
  have ho := Only.setCell (b := b) (i := 2) (w := w) (.int .i64 e0)
  have H := Lib.hid h
  have HS := Lib.hid hs
  have HO := Lib.hid ho
  clear hs ho h
  by_cases h0 : c.e = 0
  · have hf : c.fail e0 = { c with e := e0 } := by rw [Cu.fail, if_pos h0]
    rw [hf]
    rw [h0] at f2
    clear hf h0
    go_enter Try.func77, Try.ntmps77
    go_wp2
    go_end0
    exact ⟨rfl, HS.out, HO.out⟩
  · have hf : c.fail e0 = c := by rw [Cu.fail, if_neg h0]
    rw [hf]
    clear hf
    generalize c.e = x at f2 h0
    go_enter Try.func77, Try.ntmps77
    go_wp2
    go_end0
    exact ⟨rfl, H.out, Only.refl _ _⟩

end Go.Proofs.Ytfidfhajnobonaa

/- The walk of blob.Get: at every list of bytes, every place and every most. -/
namespace Go.Proofs.Ytfidfhajnobonaa
open Go.RowKit Go.Shelf
attribute [local go_sem] Oper.semAt_some

/-- What Get answers. -/
def bres (r : List UInt8 × Nat × Nat) : Value := .tuple #[.string (tx r.1), .int .i64 (r.2.1 : Int), .int .i64 (r.2.2 : Int)]

set_option maxRecDepth 100000 in
set_option maxHeartbeats 400000 in
theorem bget_err (A : Option Addr) (n c : Nat) (at_ most : Int) (e0 : Nat) (he : e0 = 1 ∨ e0 = 2 ∨ e0 = 3) (w : World)
    (h : Calls Try.prog 91 #[.slice A n c, .int .i64 at_] w fun e w' => e = .returned (.tuple #[.int .u64 0, .int .i64 0, .int .i64 (e0 : Int)]) ∧ w = w') :
    Calls Try.prog 97 #[.slice A n c, .int .i64 at_, .int .i64 most] w fun e w' => e = .returned (bres ([], 0, e0)) ∧ w = w' := by
  have H := Lib.hid h
  clear h
  rcases he with rfl | rfl | rfl
  all_goals
    go_enter Try.func97, Try.ntmps97
    go_wp2_with (go_at_call 91; refine H.out.mono ?_; rintro e w' ⟨rfl, rfl⟩)
    go_ret3
    exact ⟨rfl, rfl⟩

theorem max_val (most : Int) : (if most < 0 then (0 : Int) else most) = max most 0 := by
  by_cases h : most < 0
  · rw [if_pos h]; omega
  · rw [if_neg h]; omega

set_option maxRecDepth 100000 in
set_option maxHeartbeats 400000 in
theorem bget_go (A : Option Addr) (n c at_ m k : Nat) (most : Int) (B : Nat) (bs : List UInt8) (hc : n ≤ c) (hn : n ≤ 1073741824) (hmost : most < 9223372036854775808) (hm : m < top) (hk : 1 ≤ k) (hkn : at_ + k ≤ n) (hg : gr 0 0 (bs.drop at_) = (m, k, 0)) (w : World) (hr : Reads w B 1 A n (bs.map bv))
    (h : Calls Try.prog 91 #[.slice A n c, .int .i64 (at_ : Int)] w fun e w' => e = .returned (.tuple #[.int .u64 (m : Int), .int .i64 ((at_ + k : Nat) : Int), .int .i64 0]) ∧ w = w') :
    Calls Try.prog 97 #[.slice A n c, .int .i64 (at_ : Int), .int .i64 most] w fun e w' => e = .returned (bres (bg most at_ bs)) ∧ w = w' := by
  obtain ⟨f, hf⟩ : ∃ f, f = at_ + k := ⟨_, rfl⟩
  rw [← hf] at h hkn
  have hf1 : 1 ≤ f := by omega
  have hl : bs.length = n := by have := hr.1; simpa using this
  have hM : (most < 0 ∧ max most 0 = 0) ∨ (¬ most < 0 ∧ max most 0 = most) := by omega
  obtain ⟨M, hMM⟩ : ∃ M, M = max most 0 := ⟨_, rfl⟩
  have H := Lib.hid h
  have HF := Lib.hid hf
  have HG := Lib.hid hg
  have HL := Lib.hid hl
  have HM := Lib.hid hm
  clear h hf hg hl hm
  have hw : IntKind.u64.wrap M = M := by rw [IntKind.wrap_u64]; omega
  have HMM := Lib.hid hMM
  rw [← hMM] at hM
  clear hMM
  have hw2 : IntKind.u64.wrap ((n : Int) - (f : Int)) = ((n - f : Nat) : Int) := by rw [IntKind.wrap_u64]; omega
  by_cases h1 : M < (m : Int)
  · have hres : Hid (bg most at_ bs = ([], 0, 5)) := bg_limit HG.out (by rw [← HMM.out]; exact h1)
    rcases hM with ⟨hM0, hM1⟩ | ⟨hM0, hM1⟩
    all_goals
      subst hM1
      clear HMM
      go_enter Try.func97, Try.ntmps97
      go_wp2_with (go_at_call 91; refine H.out.mono ?_; rintro e w' ⟨rfl, rfl⟩)
      go_ret3
      exact ⟨by rw [hres.out]; rfl, rfl⟩
  · by_cases h2 : n - f < m
    · have hres : Hid (bg most at_ bs = ([], 0, 2)) := bg_short HG.out (by rw [← HMM.out]; exact h1) (by rw [HL.out, ← HF.out]; exact h2)
      rcases hM with ⟨hM0, hM1⟩ | ⟨hM0, hM1⟩
      · exact absurd h2 (by omega)
      · subst hM1
        clear HMM
        go_enter Try.func97, Try.ntmps97
        go_wp2_with (go_at_call 91; refine H.out.mono ?_; rintro e w' ⟨rfl, rfl⟩)
        go_ret3
        exact ⟨by rw [hres.out]; rfl, rfl⟩
    · have hres : Hid (bg most at_ bs = ((bs.drop f).take m, f + m, 0)) := by
        have := bg_ok HG.out (by rw [← HMM.out]; exact h1) (by rw [HL.out, ← HF.out]; exact h2)
        rwa [← HF.out] at this
      have hw3 : IntKind.i64.wrap (m : Int) = (m : Int) := by rw [IntKind.wrap_i64]; omega
      have hle : f + m ≤ n := by omega
      have hle2 : f + m ≤ c := by omega
      obtain ⟨nx, hnx⟩ : ∃ nx, nx = f + m := ⟨_, rfl⟩
      have hnx' : (f : Int) + (m : Int) = (nx : Int) := by omega
      have hsub : nx - f = m := by omega
      rw [← hnx] at hle hle2 hres
      have hfn : f ≤ nx := by omega
      have HNX := Lib.hid hnx
      clear hnx
      by_cases hcf : c = f
      · subst hcf
        have hm0 : m = 0 := by have := HNX.out; omega
        subst hm0
        obtain rfl : nx = c := by have := HNX.out; omega
        have hcv : (convert 44 9 (.slice A 0 0)).run Try.prog w = .ok (.string (tx [])) w := conv_reads (bs := []) Try.underlying44 Try.underlying5 Try.underlying9 (hr.take (k := 0) (by omega))
        rcases hM with ⟨hM0, hM1⟩ | ⟨hM0, hM1⟩
        all_goals
          subst hM1
          clear HMM
          go_enter Try.func97, Try.ntmps97
          go_wp2_with (go_at_call 91; refine H.out.mono ?_; rintro e w' ⟨rfl, rfl⟩)
          go_ret3
          exact ⟨by rw [hres.out]; rfl, rfl⟩
      · have hcv : (convert 44 9 (.slice (A.map (fun x => x.add f)) m (c - f))).run Try.prog w = .ok (.string (tx ((bs.drop f).take m))) w := by
          have h1 := hr.cut (cap := c) (k := f) (by omega) hc
          rw [if_neg hcf, Nat.mul_one, ← List.map_drop] at h1
          have h2 := h1.take (k := m) (by omega)
          rw [← List.map_take] at h2
          exact conv_reads Try.underlying44 Try.underlying5 Try.underlying9 h2
        rcases hM with ⟨hM0, hM1⟩ | ⟨hM0, hM1⟩
        all_goals
          subst hM1
          clear HMM
          go_enter Try.func97, Try.ntmps97
          go_wp2_with (go_at_call 91; refine H.out.mono ?_; rintro e w' ⟨rfl, rfl⟩)
          go_ret3
          exact ⟨by rw [hres.out]; rfl, rfl⟩

/-- **blob.Get, at every list of bytes, every place of it and every most.** -/
theorem bget_any (A : Option Addr) (n c at_ : Nat) (most : Int) (B : Nat) (bs : List UInt8) (hc : n ≤ c) (hn : n ≤ 1073741824) (hmost : most < 9223372036854775808) (hat : at_ ≤ n) (w : World) (hr : Reads w B 1 A n (bs.map bv)) :
    Calls Try.prog 97 #[.slice A n c, .int .i64 (at_ : Int), .int .i64 most] w fun e w' => e = .returned (bres (bg most at_ bs)) ∧ w = w' := by
  have h := get_any A n c at_ B bs hc hn hat w hr
  have hl : bs.length = n := by have := hr.1; simpa using this
  rcases gr_three (bs.drop at_) 0 0 with hg | hg | ⟨m, k, hg⟩
  · rw [hg] at h
    have hb : bg most at_ bs = ([], 0, 2) := bg_err hg (by decide)
    rw [hb]
    exact bget_err A n c at_ most 2 (by omega) w h
  · rw [hg] at h
    have hb : bg most at_ bs = ([], 0, 3) := bg_err hg (by decide)
    rw [hb]
    exact bget_err A n c at_ most 3 (by omega) w h
  · obtain ⟨hm, hk1, hk2, _⟩ := gr_ok0 hg
    rw [List.length_drop] at hk2
    rw [hg] at h
    exact bget_go A n c at_ m k most B bs hc hn hmost hm hk1 (by omega) hg w hr h

theorem bget_bad (A : Option Addr) (n c : Nat) (at_ most : Int) (h : at_ < 0 ∨ (n : Int) < at_) (w : World) :
    Calls Try.prog 97 #[.slice A n c, .int .i64 at_, .int .i64 most] w fun e w' => e = .returned (bres ([], 0, 1)) ∧ w = w' :=
  bget_err A n c at_ most 1 (by omega) w (get_bad A n c at_ h w)

end Go.Proofs.Ytfidfhajnobonaa

/- The walks of byteAt, of take, and of what takes one thing: a byte, a number, a text. -/
namespace Go.Proofs.Ytfidfhajnobonaa
open Go.RowKit

def rby (r : UInt8 × Nat × Nat) : Value := .tuple #[.int .u8 (r.1.toNat : Int), .int .i64 (r.2.1 : Int), .int .i64 (r.2.2 : Int)]

set_option maxRecDepth 100000 in
theorem byteAt_any (A : Option Addr) (n cap B : Nat) (c : Cu) (hn : n ≤ 1000000) (hok : c.at_ ≤ n) (w : World) (hr : Reads w B 1 A n (c.bs.map bv)) :
    Calls Try.prog 79 #[.slice A n cap, .int .i64 (c.at_ : Int)] w fun e w' => e = .returned (rby c.byR) ∧ w = w' := by
  have hl : c.bs.length = n := by have := hr.1; simpa using this
  by_cases h : c.at_ < n
  · obtain ⟨ad, u, rfl, _, hx, hcell⟩ := hr.at_ h
    obtain ⟨x, rfl, hd⟩ := byte_at hx
    have e : c.byR = (x, c.at_ + 1, 0) := by rw [Cu.byR, hd]
    have hv : rby (x, c.at_ + 1, 0) = .tuple #[.int .u8 (x.toNat : Int), .int .i64 ((c.at_ : Int) + 1), .int .i64 0] := by rw [rby]; simp
    rw [e, hv]
    generalize c.at_ = k at *
    generalize (x.toNat : Int) = v at *
    clear hx hd hr e hv hl
    go_enter Try.func79, Try.ntmps79
    go_wp2
    go_ret3
    exact ⟨rfl, rfl⟩
  · have e : c.byR = (0, 0, 2) := by rw [Cu.byR, List.drop_eq_nil_of_le (by omega)]
    have hv : rby (0, 0, 2) = .tuple #[.int .u8 0, .int .i64 0, .int .i64 2] := rfl
    rw [e, hv]
    have hk : c.at_ = n := by omega
    rw [hk]
    clear hr e hv hl hok h hk
    go_enter Try.func79, Try.ntmps79
    go_wp2
    go_ret3
    exact ⟨rfl, rfl⟩

set_option maxRecDepth 100000 in
set_option maxHeartbeats 800000 in
theorem take_byte (B b : Nat) (c : Cu) (w : World) (h : CurIn w B b c) :
    Calls Try.prog 78 #[.pointer (some ⟨b, 0, none⟩), .func (.func 79) #[] #[]] w fun e w' => e = .returned (Value.int .u8 ((c.byte.1).toNat : Int)) ∧ CurIn w' B b c.byte.2 ∧ Only b w w' := by
  have hok := h.ok
  have hrm := h.room
  have hlt := h.lt
  obtain ⟨A, n, cap, hnc, hl, hr, f0, f1, f2, z1, _⟩ := h.cells
  by_cases h0 : c.e = 0
  · have hg : ∀ W, Below w.heap.size w W → Calls Try.prog 79 #[.slice A n cap, .int .i64 (c.at_ : Int)] W fun e w' => e = .returned (.tuple #[.int .u8 (c.byR.1.toNat : Int), .int .i64 (c.byR.2.1 : Int), .int .i64 (c.byR.2.2 : Int)]) ∧ W = w' :=
      fun W hW => byteAt_any A n cap B c (by omega) (by rw [← hl]; exact hok) W (hr.below (hW.mono (by have := h.le; omega)))
    have HC0 : Hid (∀ w', Below w.heap.size w w' → w'.cell? ⟨b, 0, none⟩ = some (.slice A n cap)) := fun w' hb => (hb.cell (p := ⟨b, 0, none⟩) hlt).trans f0
    have HC1 : Hid (∀ w', Below w.heap.size w w' → w'.cell? ⟨b, 1, none⟩ = some (.int .i64 (c.at_ : Int))) := fun w' hb => (hb.cell (p := ⟨b, 1, none⟩) hlt).trans f1
    rw [h0] at f2
    have hS : Below w.heap.size w w.drew := (Below.refl _ w).drew
    have hd := h.below hS hlt
    have hin : c.byR.2.2 = 0 → c.byR.2.1 ≤ c.bs.length := fun he => (Cu.byR_in hok he).2
    by_cases h1 : c.byR.2.2 = 0
    · have e1 : c.byte.1 = c.byR.1 := by simp only [Cu.byte, Cu.tk, h0, h1, if_true]
      have e2 : c.byte.2 = { c with at_ := c.byR.2.1 } := by simp only [Cu.byte, Cu.tk, h0, h1, if_true]
      rw [e1, e2]
      rw [h1] at hg
      have hset := hd.setAt c.byR.2.1 (hin h1)
      clear e1 e2 h h0 h1 hin hok hrm hl hr hnc hd f0 f1
      generalize c.at_ = x at *
      generalize c.byR.2.1 = y at *
      generalize Value.int .u8 ((c.byR.1).toNat : Int) = v at *
      have z1' : w.drew.frozen? ⟨b, 1, none⟩ = false := z1
      have c1' := HC1.out _ hS
      have HG := Lib.hid hg
      have HSET := Lib.hid hset
      clear hg hset z1 hlt
      go_enter Try.func78, Try.ntmps78
      go_wp2
      refine wp_region_held (S := fun W => Below w.heap.size w W) (by kernel_rfl) ?_
      refine h_take 0 (.func (.func 79) #[] #[]) rfl (by kernel_rfl) (by kernel_rfl) (by kernel_rfl) (fun _ _ _ h => h) (by kernel_rfl) hS (fun _ _ => by kernel_rfl) ?_
      refine h_take 1 (.pointer (some ⟨b, 0, none⟩)) rfl (by kernel_rfl) (by kernel_rfl) (by kernel_rfl) (fun _ _ _ h => h) (by kernel_rfl) hS (fun _ _ => by kernel_rfl) ?_
      refine h_take 2 (.pointer (some ⟨b, 0, none⟩)) rfl (by kernel_rfl) (by kernel_rfl) (by kernel_rfl) (fun _ _ _ h => h) (by kernel_rfl) hS (by intro w' hb; go_simp) ?_
      refine h_take 3 (.pointer (some ⟨b, 0, none⟩)) rfl (by kernel_rfl) (by kernel_rfl) (by kernel_rfl) (fun _ _ _ h => h) (by kernel_rfl) hS (by intro w' hb; go_simp) ?_
      refine h_take 4 (.slice A n cap) rfl (by kernel_rfl) (by kernel_rfl) (by kernel_rfl) (fun _ _ _ h => h) (by kernel_rfl) hS (by intro w' hb; have c0 := HC0.out w' hb; go_simp) ?_
      refine h_take 5 (.pointer (some ⟨b, 0, none⟩)) rfl (by kernel_rfl) (by kernel_rfl) (by kernel_rfl) (fun _ _ _ h => h) (by kernel_rfl) hS (fun _ _ => by kernel_rfl) ?_
      refine h_take 6 (.pointer (some ⟨b, 0, none⟩)) rfl (by kernel_rfl) (by kernel_rfl) (by kernel_rfl) (fun _ _ _ h => h) (by kernel_rfl) hS (by intro w' hb; go_simp) ?_
      refine h_take 7 (.pointer (some ⟨b, 1, none⟩)) rfl (by kernel_rfl) (by kernel_rfl) (by kernel_rfl) (fun _ _ _ h => h) (by kernel_rfl) hS (by intro w' hb; go_simp) ?_
      refine h_take 8 (.int .i64 (x : Int)) rfl (by kernel_rfl) (by kernel_rfl) (by kernel_rfl) (fun _ _ _ h => h) (by kernel_rfl) hS (by intro w' hb; have c1 := HC1.out w' hb; go_simp) ?_
      refine h_one 9 rfl (by kernel_rfl) (by kernel_rfl) (fun K hK => ?_)
      go_simp
      refine (HG.out _ hS).mono ?_
      rintro e w1 ⟨rfl, rfl⟩
      refine hK _ _ hS ?_
      clear hK K
      refine h_take 10 (.tuple #[v, .int .i64 (y : Int), .int .i64 0]) rfl (by kernel_rfl) (by kernel_rfl) (by kernel_rfl) (fun _ _ _ h => h) (by kernel_rfl) hS (fun _ _ => by kernel_rfl) ?_
      refine h_take 11 (v) rfl (by kernel_rfl) (by kernel_rfl) (by kernel_rfl) (fun _ _ _ h => h) (by kernel_rfl) hS (by intro w' hb; go_simp) ?_
      refine h_take 12 (.int .i64 (y : Int)) rfl (by kernel_rfl) (by kernel_rfl) (by kernel_rfl) (fun _ _ _ h => h) (by kernel_rfl) hS (by intro w' hb; go_simp) ?_
      refine h_take 13 (.int .i64 0) rfl (by kernel_rfl) (by kernel_rfl) (by kernel_rfl) (fun _ _ _ h => h) (by kernel_rfl) hS (by intro w' hb; go_simp) ?_
      refine h_take 14 (v) rfl (by kernel_rfl) (by kernel_rfl) (by kernel_rfl) (fun _ _ _ h => h) (by kernel_rfl) hS (fun _ _ => by kernel_rfl) ?_
      refine h_take 15 (.int .i64 (y : Int)) rfl (by kernel_rfl) (by kernel_rfl) (by kernel_rfl) (fun _ _ _ h => h) (by kernel_rfl) hS (fun _ _ => by kernel_rfl) ?_
      refine h_take 16 (.int .i64 0) rfl (by kernel_rfl) (by kernel_rfl) (by kernel_rfl) (fun _ _ _ h => h) (by kernel_rfl) hS (fun _ _ => by kernel_rfl) ?_
      refine wpAnyH_done (by kernel_rfl) ?_ _
      go_simp
      go_wp2
      go_ret
      exact ⟨rfl, HSET.out, (Only.of_below hS).trans (Only.setCell _)⟩
    · have e1 : c.byte.1 = 0 := by simp only [Cu.byte, Cu.tk, h0, if_true, if_neg h1]
      have e2 : c.byte.2 = c.fail (c.byR.2.2 : Int) := by simp only [Cu.byte, Cu.tk, Cu.fail, h0, if_true, if_neg h1]
      rw [e1, e2]
      have hfail := fail_any B b c (c.byR.2.2 : Int) w.drew hd
      clear e1 e2 h h0 hin hok hrm hl hr hnc hd f0 f1
      generalize c.fail (c.byR.2.2 : Int) = c9 at *
      generalize c.at_ = x at *
      generalize c.byR.2.1 = y at *
      generalize c.byR.2.2 = e0 at *
      generalize Value.int .u8 ((c.byR.1).toNat : Int) = v at *
      have HG := Lib.hid hg
      have HF := Lib.hid hfail
      have hne : ¬ ((e0 : Int) = 0) := by omega
      clear hg hfail hlt
      go_enter Try.func78, Try.ntmps78
      go_wp2
      refine wp_region_held (S := fun W => Below w.heap.size w W) (by kernel_rfl) ?_
      refine h_take 0 (.func (.func 79) #[] #[]) rfl (by kernel_rfl) (by kernel_rfl) (by kernel_rfl) (fun _ _ _ h => h) (by kernel_rfl) hS (fun _ _ => by kernel_rfl) ?_
      refine h_take 1 (.pointer (some ⟨b, 0, none⟩)) rfl (by kernel_rfl) (by kernel_rfl) (by kernel_rfl) (fun _ _ _ h => h) (by kernel_rfl) hS (fun _ _ => by kernel_rfl) ?_
      refine h_take 2 (.pointer (some ⟨b, 0, none⟩)) rfl (by kernel_rfl) (by kernel_rfl) (by kernel_rfl) (fun _ _ _ h => h) (by kernel_rfl) hS (by intro w' hb; go_simp) ?_
      refine h_take 3 (.pointer (some ⟨b, 0, none⟩)) rfl (by kernel_rfl) (by kernel_rfl) (by kernel_rfl) (fun _ _ _ h => h) (by kernel_rfl) hS (by intro w' hb; go_simp) ?_
      refine h_take 4 (.slice A n cap) rfl (by kernel_rfl) (by kernel_rfl) (by kernel_rfl) (fun _ _ _ h => h) (by kernel_rfl) hS (by intro w' hb; have c0 := HC0.out w' hb; go_simp) ?_
      refine h_take 5 (.pointer (some ⟨b, 0, none⟩)) rfl (by kernel_rfl) (by kernel_rfl) (by kernel_rfl) (fun _ _ _ h => h) (by kernel_rfl) hS (fun _ _ => by kernel_rfl) ?_
      refine h_take 6 (.pointer (some ⟨b, 0, none⟩)) rfl (by kernel_rfl) (by kernel_rfl) (by kernel_rfl) (fun _ _ _ h => h) (by kernel_rfl) hS (by intro w' hb; go_simp) ?_
      refine h_take 7 (.pointer (some ⟨b, 1, none⟩)) rfl (by kernel_rfl) (by kernel_rfl) (by kernel_rfl) (fun _ _ _ h => h) (by kernel_rfl) hS (by intro w' hb; go_simp) ?_
      refine h_take 8 (.int .i64 (x : Int)) rfl (by kernel_rfl) (by kernel_rfl) (by kernel_rfl) (fun _ _ _ h => h) (by kernel_rfl) hS (by intro w' hb; have c1 := HC1.out w' hb; go_simp) ?_
      refine h_one 9 rfl (by kernel_rfl) (by kernel_rfl) (fun K hK => ?_)
      go_simp
      refine (HG.out _ hS).mono ?_
      rintro e w1 ⟨rfl, rfl⟩
      refine hK _ _ hS ?_
      clear hK K
      refine h_take 10 (.tuple #[v, .int .i64 (y : Int), .int .i64 (e0 : Int)]) rfl (by kernel_rfl) (by kernel_rfl) (by kernel_rfl) (fun _ _ _ h => h) (by kernel_rfl) hS (fun _ _ => by kernel_rfl) ?_
      refine h_take 11 (v) rfl (by kernel_rfl) (by kernel_rfl) (by kernel_rfl) (fun _ _ _ h => h) (by kernel_rfl) hS (by intro w' hb; go_simp) ?_
      refine h_take 12 (.int .i64 (y : Int)) rfl (by kernel_rfl) (by kernel_rfl) (by kernel_rfl) (fun _ _ _ h => h) (by kernel_rfl) hS (by intro w' hb; go_simp) ?_
      refine h_take 13 (.int .i64 (e0 : Int)) rfl (by kernel_rfl) (by kernel_rfl) (by kernel_rfl) (fun _ _ _ h => h) (by kernel_rfl) hS (by intro w' hb; go_simp) ?_
      refine h_take 14 (v) rfl (by kernel_rfl) (by kernel_rfl) (by kernel_rfl) (fun _ _ _ h => h) (by kernel_rfl) hS (fun _ _ => by kernel_rfl) ?_
      refine h_take 15 (.int .i64 (y : Int)) rfl (by kernel_rfl) (by kernel_rfl) (by kernel_rfl) (fun _ _ _ h => h) (by kernel_rfl) hS (fun _ _ => by kernel_rfl) ?_
      refine h_take 16 (.int .i64 (e0 : Int)) rfl (by kernel_rfl) (by kernel_rfl) (by kernel_rfl) (fun _ _ _ h => h) (by kernel_rfl) hS (fun _ _ => by kernel_rfl) ?_
      refine wpAnyH_done (by kernel_rfl) ?_ _
      go_simp
      go_wp2_with fail
      refine HF.out.mono ?_
      rintro e w2 ⟨rfl, hc2, ho2⟩
      go_wp2
      go_ret
      exact ⟨rfl, hc2, (Only.of_below hS).trans ho2⟩
  · have e1 : c.byte = (0, c) := Cu.tk_e h0
    rw [e1]
    generalize c.e = x at f2 h0
    have H := Lib.hid h
    clear e1 h hok hrm hlt hl hr f0 f1 z1
    go_enter Try.func78, Try.ntmps78
    go_wp2
    go_ret
    exact ⟨rfl, H.out, Only.refl _ _⟩

set_option maxRecDepth 100000 in
set_option maxHeartbeats 800000 in
theorem take_num (B b : Nat) (c : Cu) (w : World) (h : CurIn w B b c) :
    Calls Try.prog 90 #[.pointer (some ⟨b, 0, none⟩), .func (.func 91) #[] #[]] w fun e w' => e = .returned (Value.int .u64 ((c.num.1 : Nat) : Int)) ∧ CurIn w' B b c.num.2 ∧ Only b w w' := by
  have hok := h.ok
  have hrm := h.room
  have hlt := h.lt
  obtain ⟨A, n, cap, hnc, hl, hr, f0, f1, f2, z1, _⟩ := h.cells
  by_cases h0 : c.e = 0
  · have hg : ∀ W, Below w.heap.size w W → Calls Try.prog 91 #[.slice A n cap, .int .i64 (c.at_ : Int)] W fun e w' => e = .returned (.tuple #[.int .u64 (c.nuR.1 : Int), .int .i64 (c.nuR.2.1 : Int), .int .i64 (c.nuR.2.2 : Int)]) ∧ W = w' :=
      fun W hW => get_any A n cap c.at_ B c.bs hnc (by omega) (by rw [← hl]; exact hok) W (hr.below (hW.mono (by have := h.le; omega)))
    have HC0 : Hid (∀ w', Below w.heap.size w w' → w'.cell? ⟨b, 0, none⟩ = some (.slice A n cap)) := fun w' hb => (hb.cell (p := ⟨b, 0, none⟩) hlt).trans f0
    have HC1 : Hid (∀ w', Below w.heap.size w w' → w'.cell? ⟨b, 1, none⟩ = some (.int .i64 (c.at_ : Int))) := fun w' hb => (hb.cell (p := ⟨b, 1, none⟩) hlt).trans f1
    rw [h0] at f2
    have hS : Below w.heap.size w w.drew := (Below.refl _ w).drew
    have hd := h.below hS hlt
    have hin : c.nuR.2.2 = 0 → c.nuR.2.1 ≤ c.bs.length := fun he => (Cu.nuR_in hok he).2
    by_cases h1 : c.nuR.2.2 = 0
    · have e1 : c.num.1 = c.nuR.1 := by simp only [Cu.num, Cu.tk, h0, h1, if_true]
      have e2 : c.num.2 = { c with at_ := c.nuR.2.1 } := by simp only [Cu.num, Cu.tk, h0, h1, if_true]
      rw [e1, e2]
      rw [h1] at hg
      have hset := hd.setAt c.nuR.2.1 (hin h1)
      clear e1 e2 h h0 h1 hin hok hrm hl hr hnc hd f0 f1
      generalize c.at_ = x at *
      generalize c.nuR.2.1 = y at *
      generalize Value.int .u64 ((c.nuR.1 : Nat) : Int) = v at *
      have z1' : w.drew.frozen? ⟨b, 1, none⟩ = false := z1
      have c1' := HC1.out _ hS
      have HG := Lib.hid hg
      have HSET := Lib.hid hset
      clear hg hset z1 hlt
      go_enter Try.func90, Try.ntmps90
      go_wp2
      refine wp_region_held (S := fun W => Below w.heap.size w W) (by kernel_rfl) ?_
      refine h_take 0 (.func (.func 91) #[] #[]) rfl (by kernel_rfl) (by kernel_rfl) (by kernel_rfl) (fun _ _ _ h => h) (by kernel_rfl) hS (fun _ _ => by kernel_rfl) ?_
      refine h_take 1 (.pointer (some ⟨b, 0, none⟩)) rfl (by kernel_rfl) (by kernel_rfl) (by kernel_rfl) (fun _ _ _ h => h) (by kernel_rfl) hS (fun _ _ => by kernel_rfl) ?_
      refine h_take 2 (.pointer (some ⟨b, 0, none⟩)) rfl (by kernel_rfl) (by kernel_rfl) (by kernel_rfl) (fun _ _ _ h => h) (by kernel_rfl) hS (by intro w' hb; go_simp) ?_
      refine h_take 3 (.pointer (some ⟨b, 0, none⟩)) rfl (by kernel_rfl) (by kernel_rfl) (by kernel_rfl) (fun _ _ _ h => h) (by kernel_rfl) hS (by intro w' hb; go_simp) ?_
      refine h_take 4 (.slice A n cap) rfl (by kernel_rfl) (by kernel_rfl) (by kernel_rfl) (fun _ _ _ h => h) (by kernel_rfl) hS (by intro w' hb; have c0 := HC0.out w' hb; go_simp) ?_
      refine h_take 5 (.pointer (some ⟨b, 0, none⟩)) rfl (by kernel_rfl) (by kernel_rfl) (by kernel_rfl) (fun _ _ _ h => h) (by kernel_rfl) hS (fun _ _ => by kernel_rfl) ?_
      refine h_take 6 (.pointer (some ⟨b, 0, none⟩)) rfl (by kernel_rfl) (by kernel_rfl) (by kernel_rfl) (fun _ _ _ h => h) (by kernel_rfl) hS (by intro w' hb; go_simp) ?_
      refine h_take 7 (.pointer (some ⟨b, 1, none⟩)) rfl (by kernel_rfl) (by kernel_rfl) (by kernel_rfl) (fun _ _ _ h => h) (by kernel_rfl) hS (by intro w' hb; go_simp) ?_
      refine h_take 8 (.int .i64 (x : Int)) rfl (by kernel_rfl) (by kernel_rfl) (by kernel_rfl) (fun _ _ _ h => h) (by kernel_rfl) hS (by intro w' hb; have c1 := HC1.out w' hb; go_simp) ?_
      refine h_one 9 rfl (by kernel_rfl) (by kernel_rfl) (fun K hK => ?_)
      go_simp
      refine (HG.out _ hS).mono ?_
      rintro e w1 ⟨rfl, rfl⟩
      refine hK _ _ hS ?_
      clear hK K
      refine h_take 10 (.tuple #[v, .int .i64 (y : Int), .int .i64 0]) rfl (by kernel_rfl) (by kernel_rfl) (by kernel_rfl) (fun _ _ _ h => h) (by kernel_rfl) hS (fun _ _ => by kernel_rfl) ?_
      refine h_take 11 (v) rfl (by kernel_rfl) (by kernel_rfl) (by kernel_rfl) (fun _ _ _ h => h) (by kernel_rfl) hS (by intro w' hb; go_simp) ?_
      refine h_take 12 (.int .i64 (y : Int)) rfl (by kernel_rfl) (by kernel_rfl) (by kernel_rfl) (fun _ _ _ h => h) (by kernel_rfl) hS (by intro w' hb; go_simp) ?_
      refine h_take 13 (.int .i64 0) rfl (by kernel_rfl) (by kernel_rfl) (by kernel_rfl) (fun _ _ _ h => h) (by kernel_rfl) hS (by intro w' hb; go_simp) ?_
      refine h_take 14 (v) rfl (by kernel_rfl) (by kernel_rfl) (by kernel_rfl) (fun _ _ _ h => h) (by kernel_rfl) hS (fun _ _ => by kernel_rfl) ?_
      refine h_take 15 (.int .i64 (y : Int)) rfl (by kernel_rfl) (by kernel_rfl) (by kernel_rfl) (fun _ _ _ h => h) (by kernel_rfl) hS (fun _ _ => by kernel_rfl) ?_
      refine h_take 16 (.int .i64 0) rfl (by kernel_rfl) (by kernel_rfl) (by kernel_rfl) (fun _ _ _ h => h) (by kernel_rfl) hS (fun _ _ => by kernel_rfl) ?_
      refine wpAnyH_done (by kernel_rfl) ?_ _
      go_simp
      go_wp2
      go_ret
      exact ⟨rfl, HSET.out, (Only.of_below hS).trans (Only.setCell _)⟩
    · have e1 : c.num.1 = 0 := by simp only [Cu.num, Cu.tk, h0, if_true, if_neg h1]
      have e2 : c.num.2 = c.fail (c.nuR.2.2 : Int) := by simp only [Cu.num, Cu.tk, Cu.fail, h0, if_true, if_neg h1]
      rw [e1, e2]
      have hfail := fail_any B b c (c.nuR.2.2 : Int) w.drew hd
      clear e1 e2 h h0 hin hok hrm hl hr hnc hd f0 f1
      generalize c.fail (c.nuR.2.2 : Int) = c9 at *
      generalize c.at_ = x at *
      generalize c.nuR.2.1 = y at *
      generalize c.nuR.2.2 = e0 at *
      generalize Value.int .u64 ((c.nuR.1 : Nat) : Int) = v at *
      have HG := Lib.hid hg
      have HF := Lib.hid hfail
      have hne : ¬ ((e0 : Int) = 0) := by omega
      clear hg hfail hlt
      go_enter Try.func90, Try.ntmps90
      go_wp2
      refine wp_region_held (S := fun W => Below w.heap.size w W) (by kernel_rfl) ?_
      refine h_take 0 (.func (.func 91) #[] #[]) rfl (by kernel_rfl) (by kernel_rfl) (by kernel_rfl) (fun _ _ _ h => h) (by kernel_rfl) hS (fun _ _ => by kernel_rfl) ?_
      refine h_take 1 (.pointer (some ⟨b, 0, none⟩)) rfl (by kernel_rfl) (by kernel_rfl) (by kernel_rfl) (fun _ _ _ h => h) (by kernel_rfl) hS (fun _ _ => by kernel_rfl) ?_
      refine h_take 2 (.pointer (some ⟨b, 0, none⟩)) rfl (by kernel_rfl) (by kernel_rfl) (by kernel_rfl) (fun _ _ _ h => h) (by kernel_rfl) hS (by intro w' hb; go_simp) ?_
      refine h_take 3 (.pointer (some ⟨b, 0, none⟩)) rfl (by kernel_rfl) (by kernel_rfl) (by kernel_rfl) (fun _ _ _ h => h) (by kernel_rfl) hS (by intro w' hb; go_simp) ?_
      refine h_take 4 (.slice A n cap) rfl (by kernel_rfl) (by kernel_rfl) (by kernel_rfl) (fun _ _ _ h => h) (by kernel_rfl) hS (by intro w' hb; have c0 := HC0.out w' hb; go_simp) ?_
      refine h_take 5 (.pointer (some ⟨b, 0, none⟩)) rfl (by kernel_rfl) (by kernel_rfl) (by kernel_rfl) (fun _ _ _ h => h) (by kernel_rfl) hS (fun _ _ => by kernel_rfl) ?_
      refine h_take 6 (.pointer (some ⟨b, 0, none⟩)) rfl (by kernel_rfl) (by kernel_rfl) (by kernel_rfl) (fun _ _ _ h => h) (by kernel_rfl) hS (by intro w' hb; go_simp) ?_
      refine h_take 7 (.pointer (some ⟨b, 1, none⟩)) rfl (by kernel_rfl) (by kernel_rfl) (by kernel_rfl) (fun _ _ _ h => h) (by kernel_rfl) hS (by intro w' hb; go_simp) ?_
      refine h_take 8 (.int .i64 (x : Int)) rfl (by kernel_rfl) (by kernel_rfl) (by kernel_rfl) (fun _ _ _ h => h) (by kernel_rfl) hS (by intro w' hb; have c1 := HC1.out w' hb; go_simp) ?_
      refine h_one 9 rfl (by kernel_rfl) (by kernel_rfl) (fun K hK => ?_)
      go_simp
      refine (HG.out _ hS).mono ?_
      rintro e w1 ⟨rfl, rfl⟩
      refine hK _ _ hS ?_
      clear hK K
      refine h_take 10 (.tuple #[v, .int .i64 (y : Int), .int .i64 (e0 : Int)]) rfl (by kernel_rfl) (by kernel_rfl) (by kernel_rfl) (fun _ _ _ h => h) (by kernel_rfl) hS (fun _ _ => by kernel_rfl) ?_
      refine h_take 11 (v) rfl (by kernel_rfl) (by kernel_rfl) (by kernel_rfl) (fun _ _ _ h => h) (by kernel_rfl) hS (by intro w' hb; go_simp) ?_
      refine h_take 12 (.int .i64 (y : Int)) rfl (by kernel_rfl) (by kernel_rfl) (by kernel_rfl) (fun _ _ _ h => h) (by kernel_rfl) hS (by intro w' hb; go_simp) ?_
      refine h_take 13 (.int .i64 (e0 : Int)) rfl (by kernel_rfl) (by kernel_rfl) (by kernel_rfl) (fun _ _ _ h => h) (by kernel_rfl) hS (by intro w' hb; go_simp) ?_
      refine h_take 14 (v) rfl (by kernel_rfl) (by kernel_rfl) (by kernel_rfl) (fun _ _ _ h => h) (by kernel_rfl) hS (fun _ _ => by kernel_rfl) ?_
      refine h_take 15 (.int .i64 (y : Int)) rfl (by kernel_rfl) (by kernel_rfl) (by kernel_rfl) (fun _ _ _ h => h) (by kernel_rfl) hS (fun _ _ => by kernel_rfl) ?_
      refine h_take 16 (.int .i64 (e0 : Int)) rfl (by kernel_rfl) (by kernel_rfl) (by kernel_rfl) (fun _ _ _ h => h) (by kernel_rfl) hS (fun _ _ => by kernel_rfl) ?_
      refine wpAnyH_done (by kernel_rfl) ?_ _
      go_simp
      go_wp2_with fail
      refine HF.out.mono ?_
      rintro e w2 ⟨rfl, hc2, ho2⟩
      go_wp2
      go_ret
      exact ⟨rfl, hc2, (Only.of_below hS).trans ho2⟩
  · have e1 : c.num = (0, c) := Cu.tk_e h0
    rw [e1]
    generalize c.e = x at f2 h0
    have H := Lib.hid h
    clear e1 h hok hrm hlt hl hr f0 f1 z1
    go_enter Try.func90, Try.ntmps90
    go_wp2
    go_ret
    exact ⟨rfl, H.out, Only.refl _ _⟩

set_option maxRecDepth 100000 in
theorem text1_any (A : Option Addr) (n cap B d : Nat) (c : Cu) (most : Int) (hm : most < 9223372036854775808) (hnc : n ≤ cap) (hn : n ≤ 1000000) (hok : c.at_ ≤ n) (w : World) (hd : w.cell? ⟨d, 0, none⟩ = some (.int .i64 most)) (hr : Reads w B 1 A n (c.bs.map bv)) :
    Calls Try.prog 96 #[.slice A n cap, .int .i64 (c.at_ : Int), .pointer (some ⟨d, 0, none⟩)] w fun e w' => e = .returned (.tuple #[.string (tx (c.txR most).1), .int .i64 ((c.txR most).2.1 : Int), .int .i64 ((c.txR most).2.2 : Int)]) ∧ w = w' := by
  have hg := bget_any A n cap c.at_ most B c.bs hnc (by omega) hm hok w hr
  rw [show bg most c.at_ c.bs = c.txR most from rfl, bres] at hg
  generalize (c.at_ : Int) = x at *
  generalize tx (c.txR most).1 = t at *
  generalize ((c.txR most).2.1 : Int) = y at *
  generalize ((c.txR most).2.2 : Int) = e0 at *
  have HG := Lib.hid hg
  clear hg hr hm
  go_enter Try.func96, Try.ntmps96
  go_wp2_with fail
  refine HG.out.mono ?_
  rintro e w1 ⟨rfl, rfl⟩
  go_wp2
  go_ret3
  exact ⟨rfl, rfl⟩

set_option maxRecDepth 100000 in
set_option maxHeartbeats 800000 in
theorem take_text (B b : Nat) (c : Cu) (d : Nat) (most : Int) (hm : most < 9223372036854775808) (w : World) (h : CurIn w B b c) (hdl : d < w.heap.size) (hd0 : w.cell? ⟨d, 0, none⟩ = some (.int .i64 most)) :
    Calls Try.prog 95 #[.pointer (some ⟨b, 0, none⟩), .func (.func 96) #[] #[.pointer (some ⟨d, 0, none⟩)]] w fun e w' => e = .returned (Value.string (tx ((c.text most).1))) ∧ CurIn w' B b (c.text most).2 ∧ Only b w w' := by
  have hok := h.ok
  have hrm := h.room
  have hlt := h.lt
  obtain ⟨A, n, cap, hnc, hl, hr, f0, f1, f2, z1, _⟩ := h.cells
  by_cases h0 : c.e = 0
  · have hg : ∀ W, Below w.heap.size w W → Calls Try.prog 96 #[.slice A n cap, .int .i64 (c.at_ : Int), .pointer (some ⟨d, 0, none⟩)] W fun e w' => e = .returned (.tuple #[.string (tx (c.txR most).1), .int .i64 ((c.txR most).2.1 : Int), .int .i64 ((c.txR most).2.2 : Int)]) ∧ W = w' :=
      fun W hW => text1_any A n cap B d c most hm hnc (by omega) (by rw [← hl]; exact hok) W ((hW.cell (p := ⟨d, 0, none⟩) hdl).trans hd0) (hr.below (hW.mono (by have := h.le; omega)))
    have HC0 : Hid (∀ w', Below w.heap.size w w' → w'.cell? ⟨b, 0, none⟩ = some (.slice A n cap)) := fun w' hb => (hb.cell (p := ⟨b, 0, none⟩) hlt).trans f0
    have HC1 : Hid (∀ w', Below w.heap.size w w' → w'.cell? ⟨b, 1, none⟩ = some (.int .i64 (c.at_ : Int))) := fun w' hb => (hb.cell (p := ⟨b, 1, none⟩) hlt).trans f1
    rw [h0] at f2
    have hS : Below w.heap.size w w.drew := (Below.refl _ w).drew
    have hd := h.below hS hlt
    have hin : (c.txR most).2.2 = 0 → (c.txR most).2.1 ≤ c.bs.length := fun he => (Cu.txR_in most he).2
    by_cases h1 : (c.txR most).2.2 = 0
    · have e1 : (c.text most).1 = (c.txR most).1 := by simp only [Cu.text, Cu.tk, h0, h1, if_true]
      have e2 : (c.text most).2 = { c with at_ := (c.txR most).2.1 } := by simp only [Cu.text, Cu.tk, h0, h1, if_true]
      rw [e1, e2]
      rw [h1] at hg
      have hset := hd.setAt (c.txR most).2.1 (hin h1)
      clear e1 e2 hd0 hm h h0 h1 hin hok hrm hl hr hnc hd f0 f1
      generalize c.at_ = x at *
      generalize (c.txR most).2.1 = y at *
      generalize Value.string (tx ((c.txR most).1)) = v at *
      have z1' : w.drew.frozen? ⟨b, 1, none⟩ = false := z1
      have c1' := HC1.out _ hS
      have HG := Lib.hid hg
      have HSET := Lib.hid hset
      clear hg hset z1 hlt
      go_enter Try.func95, Try.ntmps95
      go_wp2
      refine wp_region_held (S := fun W => Below w.heap.size w W) (by kernel_rfl) ?_
      refine h_take 0 (.func (.func 96) #[] #[.pointer (some ⟨d, 0, none⟩)]) rfl (by kernel_rfl) (by kernel_rfl) (by kernel_rfl) (fun _ _ _ h => h) (by kernel_rfl) hS (fun _ _ => by kernel_rfl) ?_
      refine h_take 1 (.pointer (some ⟨b, 0, none⟩)) rfl (by kernel_rfl) (by kernel_rfl) (by kernel_rfl) (fun _ _ _ h => h) (by kernel_rfl) hS (fun _ _ => by kernel_rfl) ?_
      refine h_take 2 (.pointer (some ⟨b, 0, none⟩)) rfl (by kernel_rfl) (by kernel_rfl) (by kernel_rfl) (fun _ _ _ h => h) (by kernel_rfl) hS (by intro w' hb; go_simp) ?_
      refine h_take 3 (.pointer (some ⟨b, 0, none⟩)) rfl (by kernel_rfl) (by kernel_rfl) (by kernel_rfl) (fun _ _ _ h => h) (by kernel_rfl) hS (by intro w' hb; go_simp) ?_
      refine h_take 4 (.slice A n cap) rfl (by kernel_rfl) (by kernel_rfl) (by kernel_rfl) (fun _ _ _ h => h) (by kernel_rfl) hS (by intro w' hb; have c0 := HC0.out w' hb; go_simp) ?_
      refine h_take 5 (.pointer (some ⟨b, 0, none⟩)) rfl (by kernel_rfl) (by kernel_rfl) (by kernel_rfl) (fun _ _ _ h => h) (by kernel_rfl) hS (fun _ _ => by kernel_rfl) ?_
      refine h_take 6 (.pointer (some ⟨b, 0, none⟩)) rfl (by kernel_rfl) (by kernel_rfl) (by kernel_rfl) (fun _ _ _ h => h) (by kernel_rfl) hS (by intro w' hb; go_simp) ?_
      refine h_take 7 (.pointer (some ⟨b, 1, none⟩)) rfl (by kernel_rfl) (by kernel_rfl) (by kernel_rfl) (fun _ _ _ h => h) (by kernel_rfl) hS (by intro w' hb; go_simp) ?_
      refine h_take 8 (.int .i64 (x : Int)) rfl (by kernel_rfl) (by kernel_rfl) (by kernel_rfl) (fun _ _ _ h => h) (by kernel_rfl) hS (by intro w' hb; have c1 := HC1.out w' hb; go_simp) ?_
      refine h_one 9 rfl (by kernel_rfl) (by kernel_rfl) (fun K hK => ?_)
      go_simp
      refine (HG.out _ hS).mono ?_
      rintro e w1 ⟨rfl, rfl⟩
      refine hK _ _ hS ?_
      clear hK K
      refine h_take 10 (.tuple #[v, .int .i64 (y : Int), .int .i64 0]) rfl (by kernel_rfl) (by kernel_rfl) (by kernel_rfl) (fun _ _ _ h => h) (by kernel_rfl) hS (fun _ _ => by kernel_rfl) ?_
      refine h_take 11 (v) rfl (by kernel_rfl) (by kernel_rfl) (by kernel_rfl) (fun _ _ _ h => h) (by kernel_rfl) hS (by intro w' hb; go_simp) ?_
      refine h_take 12 (.int .i64 (y : Int)) rfl (by kernel_rfl) (by kernel_rfl) (by kernel_rfl) (fun _ _ _ h => h) (by kernel_rfl) hS (by intro w' hb; go_simp) ?_
      refine h_take 13 (.int .i64 0) rfl (by kernel_rfl) (by kernel_rfl) (by kernel_rfl) (fun _ _ _ h => h) (by kernel_rfl) hS (by intro w' hb; go_simp) ?_
      refine h_take 14 (v) rfl (by kernel_rfl) (by kernel_rfl) (by kernel_rfl) (fun _ _ _ h => h) (by kernel_rfl) hS (fun _ _ => by kernel_rfl) ?_
      refine h_take 15 (.int .i64 (y : Int)) rfl (by kernel_rfl) (by kernel_rfl) (by kernel_rfl) (fun _ _ _ h => h) (by kernel_rfl) hS (fun _ _ => by kernel_rfl) ?_
      refine h_take 16 (.int .i64 0) rfl (by kernel_rfl) (by kernel_rfl) (by kernel_rfl) (fun _ _ _ h => h) (by kernel_rfl) hS (fun _ _ => by kernel_rfl) ?_
      refine wpAnyH_done (by kernel_rfl) ?_ _
      go_simp
      go_wp2
      go_ret
      exact ⟨rfl, HSET.out, (Only.of_below hS).trans (Only.setCell _)⟩
    · have e1 : (c.text most).1 = [] := by simp only [Cu.text, Cu.tk, h0, if_true, if_neg h1]
      have e2 : (c.text most).2 = c.fail ((c.txR most).2.2 : Int) := by simp only [Cu.text, Cu.tk, Cu.fail, h0, if_true, if_neg h1]
      rw [e1, e2]
      have hfail := fail_any B b c ((c.txR most).2.2 : Int) w.drew hd
      clear e1 e2 hd0 hm h h0 hin hok hrm hl hr hnc hd f0 f1
      generalize c.fail ((c.txR most).2.2 : Int) = c9 at *
      generalize c.at_ = x at *
      generalize (c.txR most).2.1 = y at *
      generalize (c.txR most).2.2 = e0 at *
      generalize Value.string (tx ((c.txR most).1)) = v at *
      have HG := Lib.hid hg
      have HF := Lib.hid hfail
      have hne : ¬ ((e0 : Int) = 0) := by omega
      clear hg hfail hlt
      go_enter Try.func95, Try.ntmps95
      go_wp2
      refine wp_region_held (S := fun W => Below w.heap.size w W) (by kernel_rfl) ?_
      refine h_take 0 (.func (.func 96) #[] #[.pointer (some ⟨d, 0, none⟩)]) rfl (by kernel_rfl) (by kernel_rfl) (by kernel_rfl) (fun _ _ _ h => h) (by kernel_rfl) hS (fun _ _ => by kernel_rfl) ?_
      refine h_take 1 (.pointer (some ⟨b, 0, none⟩)) rfl (by kernel_rfl) (by kernel_rfl) (by kernel_rfl) (fun _ _ _ h => h) (by kernel_rfl) hS (fun _ _ => by kernel_rfl) ?_
      refine h_take 2 (.pointer (some ⟨b, 0, none⟩)) rfl (by kernel_rfl) (by kernel_rfl) (by kernel_rfl) (fun _ _ _ h => h) (by kernel_rfl) hS (by intro w' hb; go_simp) ?_
      refine h_take 3 (.pointer (some ⟨b, 0, none⟩)) rfl (by kernel_rfl) (by kernel_rfl) (by kernel_rfl) (fun _ _ _ h => h) (by kernel_rfl) hS (by intro w' hb; go_simp) ?_
      refine h_take 4 (.slice A n cap) rfl (by kernel_rfl) (by kernel_rfl) (by kernel_rfl) (fun _ _ _ h => h) (by kernel_rfl) hS (by intro w' hb; have c0 := HC0.out w' hb; go_simp) ?_
      refine h_take 5 (.pointer (some ⟨b, 0, none⟩)) rfl (by kernel_rfl) (by kernel_rfl) (by kernel_rfl) (fun _ _ _ h => h) (by kernel_rfl) hS (fun _ _ => by kernel_rfl) ?_
      refine h_take 6 (.pointer (some ⟨b, 0, none⟩)) rfl (by kernel_rfl) (by kernel_rfl) (by kernel_rfl) (fun _ _ _ h => h) (by kernel_rfl) hS (by intro w' hb; go_simp) ?_
      refine h_take 7 (.pointer (some ⟨b, 1, none⟩)) rfl (by kernel_rfl) (by kernel_rfl) (by kernel_rfl) (fun _ _ _ h => h) (by kernel_rfl) hS (by intro w' hb; go_simp) ?_
      refine h_take 8 (.int .i64 (x : Int)) rfl (by kernel_rfl) (by kernel_rfl) (by kernel_rfl) (fun _ _ _ h => h) (by kernel_rfl) hS (by intro w' hb; have c1 := HC1.out w' hb; go_simp) ?_
      refine h_one 9 rfl (by kernel_rfl) (by kernel_rfl) (fun K hK => ?_)
      go_simp
      refine (HG.out _ hS).mono ?_
      rintro e w1 ⟨rfl, rfl⟩
      refine hK _ _ hS ?_
      clear hK K
      refine h_take 10 (.tuple #[v, .int .i64 (y : Int), .int .i64 (e0 : Int)]) rfl (by kernel_rfl) (by kernel_rfl) (by kernel_rfl) (fun _ _ _ h => h) (by kernel_rfl) hS (fun _ _ => by kernel_rfl) ?_
      refine h_take 11 (v) rfl (by kernel_rfl) (by kernel_rfl) (by kernel_rfl) (fun _ _ _ h => h) (by kernel_rfl) hS (by intro w' hb; go_simp) ?_
      refine h_take 12 (.int .i64 (y : Int)) rfl (by kernel_rfl) (by kernel_rfl) (by kernel_rfl) (fun _ _ _ h => h) (by kernel_rfl) hS (by intro w' hb; go_simp) ?_
      refine h_take 13 (.int .i64 (e0 : Int)) rfl (by kernel_rfl) (by kernel_rfl) (by kernel_rfl) (fun _ _ _ h => h) (by kernel_rfl) hS (by intro w' hb; go_simp) ?_
      refine h_take 14 (v) rfl (by kernel_rfl) (by kernel_rfl) (by kernel_rfl) (fun _ _ _ h => h) (by kernel_rfl) hS (fun _ _ => by kernel_rfl) ?_
      refine h_take 15 (.int .i64 (y : Int)) rfl (by kernel_rfl) (by kernel_rfl) (by kernel_rfl) (fun _ _ _ h => h) (by kernel_rfl) hS (fun _ _ => by kernel_rfl) ?_
      refine h_take 16 (.int .i64 (e0 : Int)) rfl (by kernel_rfl) (by kernel_rfl) (by kernel_rfl) (fun _ _ _ h => h) (by kernel_rfl) hS (fun _ _ => by kernel_rfl) ?_
      refine wpAnyH_done (by kernel_rfl) ?_ _
      go_simp
      go_wp2_with fail
      refine HF.out.mono ?_
      rintro e w2 ⟨rfl, hc2, ho2⟩
      go_wp2
      go_ret
      exact ⟨rfl, hc2, (Only.of_below hS).trans ho2⟩
  · have e1 : (c.text most) = ([], c) := Cu.tk_e h0
    rw [e1]
    generalize c.e = x at f2 h0
    have H := Lib.hid h
    clear e1 hd0 hm h hok hrm hlt hl hr f0 f1 z1
    go_enter Try.func95, Try.ntmps95
    go_wp2
    go_ret
    exact ⟨rfl, H.out, Only.refl _ _⟩

end Go.Proofs.Ytfidfhajnobonaa

/- One thing after the other: the mathematics of many; the walks of Byte, Number and Text. -/
namespace Go.Proofs.Ytfidfhajnobonaa
open Go.RowKit

namespace Cu

theorem cnt_many {α : Type} (one : Cu → α × Cu) (c : Cu) (most : Int) : many one (c.cnt most).1 (c.cnt most).2 = many one c.num.1 (c.cnt most).2 := by
  unfold cnt
  split
  · rename_i h
    have h0 : c.num.2.e = 0 := by
      rcases Decidable.em (c.num.2.e = 0) with h1 | h1
      · exact h1
      · have := num_bad h1
        omega
    have h5 : (c.num.2.fail 5).e ≠ 0 := by rw [fail, if_pos h0]; simp
    rw [many_stop h5, many_stop h5]
  · rfl

/-- So many have been taken: the list l of them, from the cursor c1 to d; N in all are asked for. -/
structure MInv {α : Type} (one : Cu → α × Cu) (N : Nat) (c1 d : Cu) (l : List α) (k : Nat) : Prop where
  le : k ≤ N
  list : (many one N c1).1 = l ++ (many one (N - k) d).1
  cur : (many one N c1).2 = (many one (N - k) d).2
  len1 : l.length ≤ d.at_ + 1
  len2 : d.e = 0 → l.length ≤ d.at_
  ok : d.ok
  bs : d.bs = c1.bs

theorem MInv.start {α : Type} {one : Cu → α × Cu} {N : Nat} {c1 : Cu} (h : c1.ok) : MInv one N c1 c1 [] 0 :=
  ⟨Nat.zero_le _, rfl, rfl, by simp, by simp, h, rfl⟩

theorem MInv.step {α : Type} {one : Cu → α × Cu} {N : Nat} {c1 d : Cu} {l : List α} {k : Nat} (h : MInv one N c1 d l k) (hk : k < N) (he : d.e = 0)
    (hto : To d (one d).2) (hon : (one d).2.e = 0 → d.at_ < (one d).2.at_) : MInv one N c1 (one d).2 (l ++ [(one d).1]) (k + 1) := by
  have e : N - k = (N - (k + 1)) + 1 := by omega
  have h2 := h.len2 he
  refine ⟨hk, ?_, ?_, ?_, ?_, hto.good, hto.bs.trans h.bs⟩
  · rw [h.list, e, many_next he]; simp
  · rw [h.cur, e, many_next he]
  · have := hto.le; simp; omega
  · intro h3; have := hon h3; simp; omega

theorem MInv.stop {α : Type} {one : Cu → α × Cu} {N : Nat} {c1 d : Cu} {l : List α} {k : Nat} (h : MInv one N c1 d l k) (hs : d.e ≠ 0 ∨ N ≤ k) : many one N c1 = (l, d) := by
  have e : many one (N - k) d = ([], d) := by
    rcases hs with hs | hs
    · exact many_stop hs
    · rw [show N - k = 0 by omega]; rfl
  have h1 := h.list
  have h2 := h.cur
  rw [e] at h1 h2
  rw [List.append_nil] at h1
  exact Prod.ext h1 h2

theorem all_end {α : Type} {one : Cu → α × Cu} {c d : Cu} {most : Int} {l : List α} {m k : Nat} (hcm : many one (c.cnt most).1 (c.cnt most).2 = many one m (c.cnt most).2)
    (h : MInv one m (c.cnt most).2 d l k) (hs : d.e ≠ 0 ∨ m ≤ k) : all one c most = (if d.e = 0 then l else [], d) := by
  rw [all, hcm, h.stop hs]

end Cu

def nv (n : Nat) : Value := .int .u64 (n : Int)

theorem own_only {w w' : World} {b base n size : Nat} {e : TypeId} {v : Value} {xs : List Value} (h : w.ownsRow base e size v n xs) (hb : Only b w w') (hlt : b < base) : w'.ownsRow base e size v n xs := by
  obtain ⟨h1, h2 | ⟨g, cap, cur, hv, hbg, hg, r⟩⟩ := h
  · exact ⟨h1, .inl h2⟩
  · have hl : g < w.heap.size := lt_of_block hg
    exact ⟨h1, .inr ⟨g, cap, cur, hv, hbg, by rw [hb.block g hl (by omega)]; exact hg, r⟩⟩

theorem Only.next {b : Nat} {w x y : World} (h : Only b w x) (k : Below w.heap.size x y) : Only b w y :=
  ⟨k.os.trans h.os, k.tape.trans h.tape, k.output.trans h.output, Nat.le_trans h.size k.size, fun i hi hn => (k.block i hi).trans (h.block i hi hn)⟩

theorem reads_val (W : World) (e : TypeId) (u : Value) : Reads (W.alloc (.cells #[u] e)) (W.heap.size + 1) 1 (some ⟨W.heap.size, 0, none⟩) 1 [u] :=
  ⟨rfl, fun _ => ⟨_, rfl, by simp, fun j x hx => by
    cases j with
    | zero =>
      have hu' : u = x := by simpa using hx
      subst hu'
      simp [Addr.add]
    | succ j => simp at hx⟩⟩

theorem byte_any (B b : Nat) (c : Cu) (w : World) (h : CurIn w B b c) :
    Calls Try.prog 58 #[.pointer (some ⟨b, 0, none⟩)] w fun e w' => e = .returned (.int .u8 (c.byte.1.toNat : Int)) ∧ CurIn w' B b c.byte.2 ∧ Only b w w' := by
  have ht := take_byte B b c w h
  generalize (c.byte.1.toNat : Int) = v at *
  have HT := Lib.hid ht
  clear ht h
  go_enter Try.func58, Try.ntmps58
  go_wp2_with fail
  refine HT.out.mono ?_
  rintro e w1 ⟨rfl, hc, ho⟩
  go_wp2
  go_ret
  exact ⟨rfl, hc, ho⟩

theorem cnumber_any (B b : Nat) (c : Cu) (w : World) (h : CurIn w B b c) :
    Calls Try.prog 81 #[.pointer (some ⟨b, 0, none⟩)] w fun e w' => e = .returned (.int .u64 (c.num.1 : Int)) ∧ CurIn w' B b c.num.2 ∧ Only b w w' := by
  have ht := take_num B b c w h
  generalize (c.num.1 : Int) = v at *
  have HT := Lib.hid ht
  clear ht h
  go_enter Try.func81, Try.ntmps81
  go_wp2_with fail
  refine HT.out.mono ?_
  rintro e w1 ⟨rfl, hc, ho⟩
  go_wp2
  go_ret
  exact ⟨rfl, hc, ho⟩

theorem text_any (B b : Nat) (c : Cu) (most : Int) (hm : most < 9223372036854775808) (w : World) (h : CurIn w B b c) :
    Calls Try.prog 89 #[.pointer (some ⟨b, 0, none⟩), .int .i64 most] w fun e w' => e = .returned (.string (tx (c.text most).1)) ∧ CurIn w' B b (c.text most).2 ∧ Only b w w' := by
  have hmf : ∀ (fn : Fn) (first cap : Array Value) (w : World), (Instr.makeFunc fn first cap).run Try.prog w = .ok (.func fn first cap) w := fun _ _ _ _ => rfl
  have hlt := h.lt
  have hb : Below w.heap.size w (w.alloc (.cells #[.int .i64 most] 3)) := (Below.refl _ w).alloc (Nat.le_refl _) _
  have ht := take_text B b c w.heap.size most hm (w.alloc (.cells #[.int .i64 most] 3)) (h.below hb hlt) (by simp) (by simp only [World.cell?, World.alloc, Array.getElem?_push_size]; rfl)
  generalize tx (c.text most).1 = v at *
  have HT := Lib.hid ht
  have HB := Lib.hid hb
  clear ht h hb hlt hm
  go_enter Try.func89, Try.ntmps89
  go_wp2_with fail
  refine HT.out.mono ?_
  rintro e w1 ⟨rfl, hc, ho⟩
  go_wp2
  go_ret
  exact ⟨rfl, hc, (Only.of_below HB.out).trans ho⟩

end Go.Proofs.Ytfidfhajnobonaa

/- The walks of New, and of the document's own New and Fail. -/
namespace Go.Proofs.Ytfidfhajnobonaa
open Go.RowKit

def Cu.new (bs : List UInt8) (at_ : Int) : Cu := if at_ < 0 ∨ (bs.length : Int) < at_ then ⟨bs, 0, 1⟩ else ⟨bs, at_.toNat, 0⟩

theorem Cu.new_ok (bs : List UInt8) (at_ : Int) : (Cu.new bs at_).ok := by
  unfold Cu.new Cu.ok
  split
  · exact Nat.zero_le _
  · simp only; omega
theorem Cu.new_bs (bs : List UInt8) (at_ : Int) : (Cu.new bs at_).bs = bs := by unfold Cu.new; split <;> rfl

set_option maxRecDepth 100000 in
set_option maxHeartbeats 400000 in
theorem new_any (A : Option Addr) (n cap : Nat) (at_ : Int) (bs : List UInt8) (hn : n ≤ 1000000) (w : World) (hr : Reads w w.heap.size 1 A n (bs.map bv)) :
    Calls Try.prog 57 #[.slice A n cap, .int .i64 at_] w fun e w' => ∃ b, e = .returned (.pointer (some ⟨b, 0, none⟩)) ∧ w.heap.size ≤ b ∧ CurIn w' b b (Cu.new bs at_) ∧ Below w.heap.size w w' := by
  have hl : bs.length = n := by have := hr.1; simpa using this
  have HC := Lib.hid (clone_any A n cap w.heap.size bs (by omega) w (Nat.le_refl _) hr)
  have HN : Hid (Cu.new bs at_ = if at_ < 0 ∨ (n : Int) < at_ then ⟨bs, 0, 1⟩ else ⟨bs, at_.toNat, 0⟩) := by rw [← hl]; rfl
  have HRM : Hid (bs.length ≤ 1000000) := by rw [hl]; exact hn
  have HLEN := Lib.hid hl
  clear hr hl
  go_enter Try.func57, Try.ntmps57
  go_wp2_with fail
  refine HC.out.mono ?_
  rintro e w1 ⟨v, rfl, ho, hb⟩
  obtain ⟨A1, c1, rfl, hc1, hr1⟩ := own_reads ho
  obtain ⟨w2, hw2⟩ : ∃ w2, w2 = w1.alloc (.cells #[.slice A1 n c1, .int .i64 0, .int .i64 0] 120) := ⟨_, rfl⟩
  have hcur : CurIn w2 w1.heap.size w1.heap.size ⟨bs, 0, 0⟩ := by
    rw [hw2]
    exact ⟨Nat.zero_le _, HRM.out, Nat.le_refl _, A1, n, c1, hc1, hr1.alloc (Nat.le_refl _) _, by show (w1.heap.push _)[w1.heap.size]? = _; simp [cuCells]⟩
  have hb2 : Below w.heap.size w w2 := by rw [hw2]; exact hb.alloc hb.size _
  have hf := fail_any w1.heap.size w1.heap.size ⟨bs, 0, 0⟩ 1 w2 hcur
  have hlt := hb.size
  have hlt2 := hcur.lt
  have HCUR := Lib.hid hcur
  have HB2 := Lib.hid hb2
  have HLT := Lib.hid hlt
  rw [hw2] at hf
  have HF := Lib.hid hf
  have HW := Lib.hid hw2
  have HC1 := Lib.hid hc1
  have HR1 := Lib.hid hr1
  have HB1 := Lib.hid hb
  clear hc1 hcur hb2 hf hw2 ho hb hr1 HC hlt hlt2
  by_cases h1 : at_ < 0
  · have hn1 : Cu.new bs at_ = ⟨bs, 0, 1⟩ := by rw [HN.out, if_pos (.inl h1)]
    have HN1 := Lib.hid hn1
    clear hn1
    go_wp2_with fail
    refine HF.out.mono ?_
    rintro e w3 ⟨rfl, hc3, ho3⟩
    rw [← HW.out] at ho3
    go_wp2
    go_ret
    exact ⟨_, rfl, HLT.out, by rw [HN1.out]; exact hc3, HB2.out.trans (ho3.below HLT.out HB2.out.size)⟩
  · by_cases h2 : (n : Int) < at_
    · have hn1 : Cu.new bs at_ = ⟨bs, 0, 1⟩ := by rw [HN.out, if_pos (.inr h2)]
      have HN1 := Lib.hid hn1
      clear hn1
      go_wp2_with fail
      refine HF.out.mono ?_
      rintro e w3 ⟨rfl, hc3, ho3⟩
      rw [← HW.out] at ho3
      go_wp2
      go_ret
      exact ⟨_, rfl, HLT.out, by rw [HN1.out]; exact hc3, HB2.out.trans (ho3.below HLT.out HB2.out.size)⟩
    · have hn1 : Cu.new bs at_ = ⟨bs, at_.toNat, 0⟩ := by rw [HN.out, if_neg (by omega)]
      obtain ⟨k, hk⟩ : ∃ k : Nat, at_ = (k : Int) := ⟨at_.toNat, by omega⟩
      obtain ⟨w3, hw3⟩ : ∃ w3, w3 = w1.alloc (.cells #[.slice A1 n c1, .int .i64 (k : Int), .int .i64 0] 120) := ⟨_, rfl⟩
      have hset : CurIn w3 w1.heap.size w1.heap.size ⟨bs, k, 0⟩ := by
        rw [hw3]
        exact ⟨by show k ≤ bs.length; rw [HLEN.out]; omega, HRM.out, Nat.le_refl _, A1, n, c1, HC1.out, HR1.out.alloc (Nat.le_refl _) _, by show (w1.heap.push _)[w1.heap.size]? = _; simp [cuCells]⟩
      have hbs : Below w.heap.size w w3 := by rw [hw3]; exact HB1.out.alloc HB1.out.size _
      rw [hw3] at hset hbs
      have HSET := Lib.hid hset
      have HBS := Lib.hid hbs
      have hkk : at_.toNat = k := by omega
      rw [hkk] at hn1
      have HN1 := Lib.hid hn1
      subst hk
      clear hn1 hset hbs hkk hw3
      go_wp2
      go_ret
      exact ⟨_, rfl, HLT.out, by rw [HN1.out]; exact HSET.out, HBS.out⟩

end Go.Proofs.Ytfidfhajnobonaa

/- The walks of varint.laid, and of what it hands on: at every number of 64 bits. -/
namespace Go.Proofs.Ytfidfhajnobonaa
open Go.RowKit Go.Shelf
attribute [local go_sem] Oper.semAt_some

theorem laid_in (F : Fence) (n : Nat) (h13 : F.fn 93) (hro : F.round = none) (k : Int) (w : World) :
    CallsIn F n Try.prog 93 #[.int .u64 k] w fun e w' => e = .returned (.func (.func 99) #[] #[.pointer (some ⟨w.heap.size, 0, none⟩)]) ∧ w' = w.alloc (.cells #[.int .u64 k] 23) := by
  refine callsIn_of_wp Try.func93 rfl h13 ?_ hro
  simp only [Try.ntmps93, List.size_toArray, List.length_cons, List.length_nil, Nat.reduceAdd, Nat.reduceSub, Array.replicate_succ, Array.replicate_zero, List.push_toArray, List.append_toArray, List.nil_append, List.cons_append]
  gi_wp2
  go_ret
  exact ⟨rfl, rfl⟩

theorem or128 : ∀ x : Fin 256, bits BinOp.or IntKind.u8 ((x : Nat) : Int) 128 = (((x : Nat) % 128 + 128 : Nat) : Int) := by decide +kernel
theorem or128' (m : Nat) : bits BinOp.or IntKind.u8 ((m : Int) % 256) 128 = (((UInt8.ofNat (m % 128 + 128)).toNat : Nat) : Int) := by
  have h := or128 ⟨m % 256, Nat.mod_lt _ (by omega)⟩
  rw [u8_cont]
  have e : ((m : Int) % 256) = ((m % 256 : Nat) : Int) := by omega
  rw [e, h]
  have : m % 256 % 128 = m % 128 := by omega
  show ((m % 256 % 128 + 128 : Nat) : Int) = _
  rw [this]

set_option maxRecDepth 100000 in
set_option maxHeartbeats 400000 in
theorem it_in (F : Fence) (n : Nat) (h15 : F.fn 99) (hro : F.round = none) (hn : 1 ≤ n) (l Bn : Nat) (k : Nat) (Kp : World → World → Prop) (J Jx : List UInt8 → World → Prop)
    (hY : ∀ pre x W, J pre W → pre.length < (vb k).length → YieldAt F (n - 1) Try.prog l #[.int .u8 ((x : UInt8).toNat : Int)] W fun e W' =>
      (e = .returned (.bool true) ∧ J (pre ++ [x]) W' ∧ Kp W W') ∨ (e = .returned (.bool false) ∧ Jx (pre ++ [x]) W'))
    (W : World) (hBn : W.cell? ⟨Bn, 0, none⟩ = some (.int .u64 (k : Int))) (h0 : J [] W) :
    CallsIn F n Try.prog 99 #[.func (.yield l) #[] #[], .pointer (some ⟨Bn, 0, none⟩)] W fun e W' => (∃ v, e = .returned v) ∧
      ((∃ ys, ys = vb k ∧ J ys W') ∨ (∃ pre, pre <+: vb k ∧ Jx pre W')) := by
  refine callsIn_of_wp Try.func99 rfl h15 ?_ hro
  simp only [Try.ntmps99, List.size_toArray, List.length_cons, List.length_nil, Nat.reduceAdd, Nat.reduceSub, Array.replicate_succ, Array.replicate_zero, List.push_toArray, List.append_toArray, List.nil_append, List.cons_append]
  obtain ⟨L, hL⟩ : ∃ L, L = vb k := ⟨_, rfl⟩
  rw [← hL] at hY ⊢
  have HL := Lib.hid hL
  clear hL
  gi_wp2
  gi_loopw [3] (fun p wr => ∃ (pre : List UInt8) (m : Nat), p = .int .u64 (m : Int) ∧ Hid (L = pre ++ vb m) ∧ J pre wr)
    (fun p wr => (intOf p).toNat)
  case atStart =>
    exact ⟨[], k, rfl, HL.out, h0⟩
  case round =>
    obtain ⟨pre, m, rfl, hx, hJs⟩ := hrel
    by_cases h : m < 128
    · have hlen : pre.length < L.length := by rw [hx.out]; have := vb_pos m; simp; omega
      obtain ⟨fn, tmps, assign, body, hy, hR⟩ := hY pre (UInt8.ofNat m) wr hJs hlen
      rw [u8_ofNat m (by omega)] at hy
      have hx' : Hid (L = pre ++ [UInt8.ofNat m]) := by have := hx.out; rwa [vb_lt h] at this
      gi_wp2
      refine hR.mono ?_
      rintro e W3 (⟨rfl, hJ3, hk3⟩ | ⟨rfl, hJx3⟩)
      · gi_wp2
        go_end0
        exact ⟨⟨_, rfl⟩, .inl ⟨_, hx'.out.symm, hJ3⟩⟩
      · gi_wp2
        go_end0
        exact ⟨⟨_, rfl⟩, .inr ⟨_, by rw [hx'.out]; exact List.prefix_refl _, hJx3⟩⟩
    · have hlen : pre.length < L.length := by rw [hx.out]; have := vb_pos m; simp; omega
      obtain ⟨fn, tmps, assign, body, hy, hR⟩ := hY pre (UInt8.ofNat (m % 128 + 128)) wr hJs hlen
      rw [← or128' m] at hy
      have hx' : Hid (L = (pre ++ [UInt8.ofNat (m % 128 + 128)]) ++ vb (m / 128)) := by have := hx.out; rw [vb_ge (by omega)] at this; rw [this]; simp [Hid]
      clear hlen hx
      gi_wp2
      refine hR.mono ?_
      rintro e W3 (⟨rfl, hJ3, hk3⟩ | ⟨rfl, hJx3⟩)
      · gi_wp2
        go_roundw
        case rel => exact ⟨pre ++ [UInt8.ofNat (m % 128 + 128)], m / 128, by go_num, hx', hJ3⟩
        case measure => simp [intOf]; omega
      · gi_wp2
        refine bodyPost_ret (results_none rfl _ _ _) rfl ?_
        exact ⟨⟨_, rfl⟩, .inr ⟨_, by rw [hx'.out]; exact ⟨_, rfl⟩, hJx3⟩⟩

/-- What is handed on: all of a number's bytes, in their order; or some first ones, where a round has said that it wants no more. -/
theorem it_stops (F : Fence) (n : Nat) (h15 : F.fn 99) (hro : F.round = none) (hn : 1 ≤ n) (Bn k : Nat) (w : World) (hBn : Bn < w.heap.size) (hc : w.cell? ⟨Bn, 0, none⟩ = some (.int .u64 (k : Int))) :
    SeqStopsK F n Try.prog 99 #[.pointer (some ⟨Bn, 0, none⟩)] (fun x : UInt8 => #[Value.int .u8 (x.toNat : Int)]) (fun _ _ => True) (fun ys => ys = vb k) (fun pre => pre <+: vb k) (vb k).length w := fun l J Jx W hW _ _ hY h0 =>
  it_in F n h15 hro hn l Bn k (fun _ _ => True) J Jx hY W ((hW.cell (p := ⟨Bn, 0, none⟩) hBn).trans hc) h0

theorem laid_any (k : Int) (w : World) :
    Calls Try.prog 93 #[.int .u64 k] w fun e w' => e = .returned (.func (.func 99) #[] #[.pointer (some ⟨w.heap.size, 0, none⟩)]) ∧ w' = w.alloc (.cells #[.int .u64 k] 23) :=
  (callsIn_wide (n := 1)).1 (laid_in Fence.wide 1 trivial rfl k w)

end Go.Proofs.Ytfidfhajnobonaa

/- The walk of varint.Put: behind any bytes, any number of 64 bits. -/
namespace Go.Proofs.Ytfidfhajnobonaa
open Go.RowKit Go.Shelf
attribute [local go_sem] Oper.semAt_some

theorem info5 : (Try.prog.info? 5).map (fun i => (i.zero, i.size, i.bytes)) = some (some (.int .u8 0), 1, 1) := by kernel_rfl

set_option maxRecDepth 100000 in
set_option maxHeartbeats 400000 in
theorem put_any (A : Option Addr) (c k : Nat) (bs : List UInt8) (hk : k < top) (hbs : bs.length ≤ 1073741824) (w : World) (hr : Reads w w.heap.size 1 A bs.length (bs.map bv)) :
    Calls Try.prog 87 #[.slice A bs.length c, .int .u64 (k : Int)] w fun e w' => ∃ v, e = .returned v ∧ w'.ownsRow w.heap.size 5 1 v (bs ++ vb k).length ((bs ++ vb k).map bv) ∧ Below w.heap.size w w' := by
  have hlen := vb_len k hk
  clear hk
  obtain ⟨i0, hi, hz0, hz1, hz2⟩ := info_parts info5
  obtain ⟨n, hn⟩ : ∃ n, n = bs.length := ⟨_, rfl⟩
  rw [← hn] at hr hbs ⊢
  have HN := Lib.hid hn
  clear hn
  obtain ⟨xs, hx⟩ : ∃ xs, xs = bs.map bv := ⟨_, rfl⟩
  rw [← hx] at hr
  have HX := Lib.hid hx
  clear hx
  refine (callsIn_wide (n := 4)).1 ?_
  refine callsIn_of_wp_marks Try.func87 rfl trivial ?_ rfl
  refine wpIn_wide.2 ?_
  simp only [Try.ntmps87, List.size_toArray, List.length_cons, List.length_nil, Nat.reduceAdd, Nat.reduceSub, Array.replicate_succ, Array.replicate_zero, List.push_toArray, List.append_toArray, List.nil_append, List.cons_append]
  have hxl : xs.length = n := by have := hr.1; omega
  have hx1 : ∀ u ∈ xs, u.oneCell' = true := by rw [HX.out]; exact bv_one bs
  have HX1 := Lib.hid hx1
  have HXL := Lib.hid hxl
  clear hx1 hxl
  go_wp2_with (first
    | (at_make; refine wpList_make_at _ rfl (.tmp 8) (.tmp 11) 44 rfl 5 i0 (.int .u8 0) Try.underlying44 hi hz0 hz1 .i64 .i64 _ _ n (n + 10) rfl rfl rfl (by omega) (by omega) (by rw [hz2]; omega) (by unfold maxLen; omega) ?_; intro Z HZ HZ2; clear HZ2)
    | (with_reducible refine wpList_copy_at rfl (.tmp 13) (.tmp 14) 44 44 rfl 5 Try.underlying44 (by rw [hi]; simp [hz1]) A n (n + 10) n c w.heap.size 0 rfl rfl Z 5 ((Below.heap_alloc _ _ _ (by simp)).trans (World.alloc_heap_new w _)) xs w.heap.size ((hr.alloc (Nat.le_refl _) _).alloc (by simp) _) (Nat.le_refl _) (by rw [HZ.out]; omega) HX1.out ?_
       intro W1 HG1 hgrow1
       have bO := (Boxed.new (w.alloc (.cells Z.toArray 5)) 44 (.slice (some ⟨w.heap.size, 0, none⟩) n (n + 10))).kept hgrow1 (by simp)
       rw [World.size_alloc] at bO
       have hB1 : Below w.heap.size w W1 := (((Below.refl _ w).alloc (Nat.le_refl _) _).alloc (by simp) _).grown hgrow1 (by simp; omega) (fun k e => by cases e; exact Nat.le_refl _)
       have hs1 : w.heap.size + 2 ≤ W1.heap.size := by have := hgrow1.size; simpa using this
       clear hgrow1
       have hc1 := bO.cell
       have hf1 := bO.frozen)
    | (go_at_call 93; refine (laid_any _ _).mono ?_; rintro e w' ⟨rfl, rfl⟩))
  have bN := Boxed.new W1 23 (.int .u64 (k : Int))
  have hB2 : Below w.heap.size w (W1.alloc (.cells #[.int .u64 (k : Int)] 23)) := hB1.alloc (by omega) _
  have hrow1 : W1.ownsRow w.heap.size 5 1 (.slice (some ⟨w.heap.size, 0, none⟩) n (n + 10)) n xs :=
    ownsRow_of_block (Nat.le_refl _) HG1.out (by omega) (by unfold maxLen; omega) (by rw [length_splice _ _ _ (by rw [HXL.out, HZ.out]; omega)]; exact HZ.out) (by simp [splice, HXL.out])
  clear hc1 hf1
  refine (wpIn_wide (n := 4)).1 ?_
  refine wpIn_rangeFunc_ownG rfl (by omega) (gf := 99) (lb := #[.pointer (some ⟨W1.heap.size, 0, none⟩)]) rfl trivial (enters_of Try.func99 (by kernel_rfl) rfl)
    (it_stops Fence.wide 3 trivial rfl (by omega) W1.heap.size k _ (by simp) bN.cell) (fun _ _ => trivial) (fun _ _ _ _ _ _ _ _ => trivial) (Below.refl _ _) (fun _ => rfl)
    (fun pre W => (∃ v, Boxed W (w.heap.size + 1) 44 v ∧ W.ownsRow w.heap.size 5 1 v (n + pre.length) (xs ++ pre.map bv) ∧ True) ∧ Below w.heap.size w W)
    (fun _ _ _ => False)
    (OwnFrom.and (Own.from (holdsRow_own w.heap.size (w.heap.size + 1) 44 5 1 (fun pre : List UInt8 => n + pre.length) (fun pre => xs ++ pre.map bv) (fun _ _ => True)) _) (ownFrom_below (Nat.le_refl _) (by simp; omega)))
    (fun _ _ _ _ _ hs _ _ => hs)
    ⟨⟨_, bO.alloc _, by simpa using hrow1.alloc _, trivial⟩, hB2⟩
    (fun x => { tmps := #[.slice A n c, .int .u64 (k : Int), undef, undef, .slice none 0 0, .pointer (some ⟨w.heap.size + 1, 0, none⟩), .int .u8 (x.toNat : Int), .slice A n c, .int .i64 (n : Int), .slice A n c, .int .i64 (n : Int), .int .i64 ((n : Int) + 10), .slice (some ⟨w.heap.size, 0, none⟩) n (n + 10), .slice (some ⟨w.heap.size, 0, none⟩) n (n + 10), .slice A n c, .int .i64 (n : Int), .int .u64 (k : Int), .func (.func 99) #[] #[.pointer (some ⟨W1.heap.size, 0, none⟩)], .int .u8 (x.toNat : Int), undef, undef, undef, undef, undef], defers := [] }) ?assign ?body ?done ?stop
  case assign =>
    intro l x W K hK
    gi_wp2
    simpa using hK
  case body =>
    rintro l pre x W ⟨⟨v, hv, hrow, _⟩, hB⟩ hlt
    have hc := hv.cell
    gi_wp2_with (gi_at_builtin; refine wpListIn_append_own _ rfl _ _ 44 rfl w.heap.size 5 i0 (.int .u8 0) 1 1 Try.underlying44 hi hz0 hz1 hz2 rfl (by decide) _ _ _ rfl (hrow.alloc _) ⟨W.heap.size, 0, none⟩ 1 1 [.int .u8 (x.toNat : Int)] rfl rfl (cell_one_new _ _ _) (by simp [Value.oneCell']) (by unfold maxLen; omega) (by omega) (by have := hB.size; simp; omega) ?_; intro v' w1 hown' hgrow _; obtain ⟨g', cap', rfl⟩ := ownsRow_succ hown'; obtain ⟨hv1, hv2, hr2, hk2, hb2⟩ := hv.appended (by decide) hrow hB.size (by omega) hown' hgrow; have hc1 := hv1.cell; have hf1 := hv1.frozen)
    refine ⟨hk2.from _, trivial, ⟨_, hv2, ?_, trivial⟩, hB.trans hb2⟩
    have e1 : n + (pre ++ [x]).length = n + pre.length + 1 := by simp; omega
    have e2 : xs ++ (pre ++ [x]).map bv = xs ++ pre.map bv ++ [.int .u8 (x.toNat : Int)] := by simp [bv]
    rw [e1, e2]
    exact hr2
  case done =>
    rintro D ys W hD rfl ⟨⟨v, hv, hrow, _⟩, hB⟩ hK
    have hc := hv.cell
    go_wp2
    refine ⟨by simp, .inl ⟨_, _, rfl, run_takeDeferred hK, ?_⟩⟩
    refine ⟨_, results_tmp rfl _ _ _, v, rfl, ?_, hB.trans (belowK_b (w := w) (Nat.le_refl _) W D _ _ (by simp at hD; omega) hK rfl rfl)⟩
    have := ownsRow_putObj hrow (.deferred none) hK rfl
    rw [HX.out, HN.out] at this
    simpa using this
  case stop =>
    rintro D c pre W _ _ h _
    exact h.elim

theorem put_nil (k : Nat) (hk : k < top) (w : World) :
    Calls Try.prog 87 #[.slice none 0 0, .int .u64 (k : Int)] w fun e w' => ∃ v, e = .returned v ∧ w'.ownsRow w.heap.size 5 1 v (vb k).length ((vb k).map bv) ∧ Below w.heap.size w w' :=
  put_any none 0 k [] hk (by simp) w Reads.none_

end Go.Proofs.Ytfidfhajnobonaa

/- The walks of blob.List and blob.Put: behind any bytes, any texts. -/
namespace Go.Proofs.Ytfidfhajnobonaa
open Go.RowKit Go.Shelf
attribute [local go_sem] Oper.semAt_some

/-- At the head of a round of List's loop: so many texts have been laid. -/
def LRel (w : World) (bs : List UInt8) (ts : List (List UInt8)) (v idx : Value) (wr : World) : Prop :=
  ∃ i, i ≤ ts.length ∧ idx = .int .i64 (i : Int) ∧ wr.ownsRow w.heap.size 5 1 v (bs ++ blobs (ts.take i)).length ((bs ++ blobs (ts.take i)).map bv) ∧ Below w.heap.size w wr

set_option maxRecDepth 100000 in
set_option maxHeartbeats 400000 in
theorem list_any (A L : Option Addr) (n c m d B : Nat) (bs : List UInt8) (ts : List (List UInt8)) (hbig : n + (blobs ts).length ≤ 1073741824) (hm : m ≤ 1073741824) (w : World) (hB : B ≤ w.heap.size) (hr : Reads w B 1 A n (bs.map bv)) (hl : Reads w B 1 L m (ts.map sv)) :
    Calls Try.prog 92 #[.slice A n c, .slice L m d] w fun e w' => ∃ v, e = .returned v ∧ w'.ownsRow w.heap.size 5 1 v (bs ++ blobs ts).length ((bs ++ blobs ts).map bv) ∧ Below w.heap.size w w' := by
  obtain ⟨i0, hi0, hz0, hz1, hz2⟩ := info_parts info5
  have hnl : bs.length = n := by have := hr.1; simpa using this
  have hml : ts.length = m := by have := hl.1; simpa using this
  have HCL := Lib.hid (clone_any A n c B bs (by omega) w hB hr)
  have HNL := Lib.hid hnl
  have HML := Lib.hid hml
  have HBIG := Lib.hid hbig
  clear hnl hml hbig hr
  go_enter Try.func92, Try.ntmps92
  go_wp2_with (go_at_call 76; refine HCL.out.mono ?_; rintro e w1 ⟨v1, rfl, ho1, hb1⟩)
  go_loopw [5, 12] (fun v idx wr => LRel w bs ts v idx wr) (fun v idx wr => m - (intOf idx).toNat)
  case atStart => exact ⟨0, by omega, rfl, by simpa [blobs, HNL.out] using ho1, hb1⟩
  case round =>
    obtain ⟨i, hi, rfl, ho, hb⟩ := hrel
    rw [HML.out] at hi
    obtain ⟨q, hq⟩ : ∃ q, q = bs ++ blobs (ts.take i) := ⟨_, rfl⟩
    rw [← hq] at ho
    have HQ := Lib.hid hq
    clear hq
    by_cases hlt : i < m
    · obtain ⟨ad, u, rfl, hadb, hx, hcell0⟩ := hl.at_ hlt
      obtain ⟨x, rfl, hxi⟩ := text_at hx
      have hcell := (hb.cell (p := ad.add i) (by rw [block_of_add]; omega)).trans hcell0
      have hfit : q.length + (blob x).length ≤ 1073741824 := by
        have h1 := blobs_one_le hxi
        have h2 := HBIG.out
        have h3 := HNL.out
        rw [HQ.out, List.length_append]; omega
      have HXI := Lib.hid hxi
      rw [blob_len] at hfit
      obtain ⟨k, hk⟩ : ∃ k, k = x.length := ⟨_, rfl⟩
      have hsz : (tx x).size = k := by rw [tx_size, hk]
      have hst := strCells_tx x
      rw [← hk] at hfit
      have hput : Hid (∀ W : World, Calls Try.prog 87 #[.slice none 0 0, .int .u64 (k : Int)] W fun e w' => ∃ a2 c2, e = .returned (.slice (some a2) (vb k).length c2) ∧ ((vb k).map bv).length = (vb k).length * 1 ∧ (∀ j u, ((vb k).map bv)[j]? = some u → w'.cell? (a2.add j) = some u) ∧ Below W.heap.size W w') := by
        intro W
        refine (put_nil k (by unfold top; omega) W).mono ?_
        rintro e w' ⟨v, rfl, ho, hb⟩
        obtain ⟨A2, c2, rfl, _, hr2⟩ := own_reads ho
        obtain ⟨a2, rfl, _, hc2⟩ := hr2.2 (vb_pos k)
        exact ⟨a2, c2, rfl, hr2.1, hc2, hb⟩
      obtain ⟨s, hs⟩ : ∃ s, s = tx x := ⟨_, rfl⟩
      rw [← hs] at hcell hsz hst
      have hw1 : IntKind.u64.wrap (k : Int) = (k : Int) := by rw [IntKind.wrap_u64]; omega
      obtain ⟨lk, hlk⟩ : ∃ lk, lk = (vb k).length := ⟨_, rfl⟩
      rw [← hlk] at hput hfit
      have HK := Lib.hid hk
      have HLK := Lib.hid hlk
      have HST := Lib.hid hst
      clear hcell0 hx hxi hadb hs hk hlk hst
      go_wp2_with (first
        | (go_at_call 87; refine (hput.out _).mono ?_; rintro e w2 ⟨a2, c2, rfl, hl2, hc2, hb2⟩)
        | (at_builtin; refine wpList_append_own _ rfl _ _ 44 rfl w.heap.size 5 i0 (.int .u8 0) 1 1 Try.underlying44 hi0 hz0 hz1 hz2 rfl (by decide) _ _ _ rfl (own_below ho hb2) a2 lk c2 _ rfl hl2 hc2 (bv_one _) (by unfold maxLen; omega) (by omega) (by have := hb.size; have := hb2.size; omega) ?_; intro v3 w3 ho3 hgrow3 _)
        | (at_builtin; refine Lib.wpList_append_own_string _ rfl _ _ 44 9 rfl w.heap.size 5 i0 Try.underlying44 Try.underlying9 hi0 hz0 hz1 hz2 v3 _ _ rfl ho3 s rfl (by rw [hsz]; unfold maxLen; omega) (by rw [hsz]; omega) (by have := hb.size; have := hb2.size; have := hgrow3.size; omega) ?_; intro v4 w4 ho4 hgrow4 _))
      have e1 : bs ++ blobs (ts.take (i + 1)) = q ++ blob x := by rw [blobs_succ HXI.out, ← List.append_assoc, ← HQ.out]
      have hbl : blob x = vb k ++ x := by rw [blob, ← HK.out]
      have hb3 : Below w.heap.size w w2 := hb.trans (hb2.mono hb.size)
      have hb4 := (hb3.grown hgrow3 hb3.size (own_block ho)).grown hgrow4 (by have := hb3.size; have := hgrow3.size; omega) (own_block ho3)
      refine ⟨⟨i + 1, by rw [HML.out]; omega, by go_num, ?_, hb4⟩, by simp [intOf]; omega⟩
      rw [e1, hbl]
      have e2 : (q ++ (vb k ++ x)).length = q.length + lk + k := by simp [HLK.out, HK.out, Nat.add_assoc]
      have e3 : (q ++ (vb k ++ x)).map bv = q.map bv ++ (vb k).map bv ++ x.map bv := by simp
      rw [e2, e3, ← HST.out]
      rw [hsz] at ho4
      exact ho4
    · obtain rfl : i = m := by omega
      have hall : ts.take i = ts := List.take_of_length_le (by rw [HML.out]; omega)
      rw [HQ.out, hall] at ho
      go_wp2
      go_ret
      exact ⟨_, rfl, ho, hb⟩

set_option maxRecDepth 100000 in
set_option maxHeartbeats 400000 in
/-- blob.Put: the blob behind any bytes. -/
theorem bput_any (A : Option Addr) (n c B : Nat) (bs t : List UInt8) (hbig : n + (blob t).length ≤ 1073741824) (w : World) (hB : B ≤ w.heap.size) (hr : Reads w B 1 A n (bs.map bv)) :
    Calls Try.prog 86 #[.slice A n c, .string (tx t)] w fun e w' => ∃ v, e = .returned v ∧ w'.ownsRow w.heap.size 5 1 v (bs ++ blob t).length ((bs ++ blob t).map bv) ∧ Below w.heap.size w w' := by
  have hlist : ∀ W, W = w.alloc (.cells #[.string (tx t)] 9) → Calls Try.prog 92 #[.slice A n c, .slice (some ⟨w.heap.size, 0, none⟩) 1 1] W fun e w' => ∃ v, e = .returned v ∧ w'.ownsRow W.heap.size 5 1 v (bs ++ blob t).length ((bs ++ blob t).map bv) ∧ Below W.heap.size W w' := by
    rintro W rfl
    have := list_any A (some ⟨w.heap.size, 0, none⟩) n c 1 1 (w.heap.size + 1) bs [t] (by simpa [blobs] using hbig) (by omega) (w.alloc (.cells #[sv t] 9)) (by simp) ((hr.alloc hB _).more (by omega)) (reads_text w 9 t)
    simp only [blobs, List.append_nil] at this
    exact this
  have HLIST := Lib.hid hlist
  clear hlist
  obtain ⟨z, hz⟩ : ∃ z, z = bs ++ blob t := ⟨_, rfl⟩
  rw [← hz] at HLIST ⊢
  clear hz hbig hr
  obtain ⟨s, hs⟩ : ∃ s, s = tx t := ⟨_, rfl⟩
  rw [← hs] at HLIST ⊢
  clear hs
  go_enter Try.func86, Try.ntmps86
  go_wp2_with (go_at_call 92; refine (HLIST.out _ rfl).mono ?_; rintro e w1 ⟨v1, rfl, ho1, hb1⟩)
  go_ret
  refine ⟨_, rfl, ?_, ((Below.refl _ w).alloc (Nat.le_refl _) _).trans (hb1.mono (by simp))⟩
  obtain ⟨h1, h2 | ⟨g, cap, cur, hv, hbg, r⟩⟩ := ho1
  · exact ⟨h1, .inl h2⟩
  · exact ⟨h1, .inr ⟨g, cap, cur, hv, by simp at hbg; omega, r⟩⟩

theorem bput_nil (t : List UInt8) (hbig : (blob t).length ≤ 1073741824) (w : World) :
    Calls Try.prog 86 #[.slice none 0 0, .string (tx t)] w fun e w' => ∃ v, e = .returned v ∧ w'.ownsRow w.heap.size 5 1 v (blob t).length ((blob t).map bv) ∧ Below w.heap.size w w' :=
  bput_any none 0 0 w.heap.size [] t (by omega) w (Nat.le_refl _) Reads.none_

end Go.Proofs.Ytfidfhajnobonaa

/- The walks of find, Find. -/
namespace Go.Proofs.Ytfidfhajnobonaa
open Go.RowKit Go.Maps Go.ChangeMaps Go.WideMaps

set_option maxRecDepth 100000 in
set_option maxHeartbeats 400000 in
theorem find_any (S : Nat → Prop) (b N : Nat) (l : List (List UInt8)) (s : List UInt8) (hs : s.length ≤ maxLen) (w : World) (h : Tab w S b N l) :
    Calls Try.prog 94 #[.pointer (some ⟨b, 0, none⟩), tsv s] w fun e w' => e = .returned (.tuple #[.int .u64 (tnum l s : Int), .bool (decide (s ∈ l))]) ∧ w = w' := by
  obtain ⟨L, c, mv, h1, _, _, _, h5, _⟩ := h
  have hc1 := field_cell (i := 1) h1 rfl
  have hkey := tkeyOf hs
  have HK := Lib.hid hkey
  unfold tsv at hkey ⊢
  rcases h5 with ⟨rfl, rfl⟩ | ⟨mb, D, rfl, _, hm, hn⟩
  · have hnil := fun W : World => look_nil (w := W) (P := Try.prog) true tkey Try.underlying57 (zeroU W) hkey
    have hnum : tnum [] s = 0 := by simp [tnum]
    rw [hnum]
    clear hkey h1
    go_enter Try.func94, Try.ntmps94
    go_wp2
    go_ret2
    exact ⟨by simp, rfl⟩
  · obtain ⟨e1, e2⟩ := hn.2 s
    have E1 := Lib.hid e1
    have E2 := Lib.hid e2
    clear e1 e2 h1
    go_enter Try.func94, Try.ntmps94
    go_wp2_with (at_lookup; refine wpList_lookup_own_ok_int _ rfl _ _ 57 rfl 9 23 .u64 tkey Try.underlying57 Try.underlying23 (zeroU _) mb N D rfl hm _ _ rfl hkey ?_; intro cv hat hwc)
    go_ret2
    have e3 := E2.out
    unfold u0 at e3
    rw [e3] at hat
    have : cv = (tnum l s : Int) := by injection hat with hat; injection hat with _ hat; exact hat.symm
    rw [this, E1.out]
    exact ⟨rfl, rfl⟩

set_option maxRecDepth 100000 in
set_option maxHeartbeats 400000 in
theorem Find_any (S : Nat → Prop) (b N : Nat) (l : List (List UInt8)) (s : List UInt8) (hs : s.length ≤ maxLen) (w : World) (h : Tab w S b N l) :
    Calls Try.prog 88 #[.pointer (some ⟨b, 0, none⟩), tsv s] w fun e w' => e = .returned (.tuple #[.int .u64 (tnum l s : Int), .bool (decide (s ∈ l))]) ∧ w = w' := by
  have HF := Lib.hid (find_any S b N l s hs w h)
  unfold tsv at HF ⊢
  generalize decide (s ∈ l) = q at HF ⊢
  clear h hs
  go_enter Try.func88, Try.ntmps88
  go_wp2_with (first
    | (go_at_call 39; refine (all_any b _).mono ?_; rintro e w1 ⟨rfl, rfl⟩)
    | (go_at_call 94; refine HF.out.mono ?_; rintro e w1 ⟨rfl, rfl⟩))
  go_ret2
  exact ⟨rfl, rfl⟩

end Go.Proofs.Ytfidfhajnobonaa

/- An append at a step of a region that draws its order; a row of structs whose cell is written. -/
namespace Go.Proofs.Ytfidfhajnobonaa
open Go.RowKit

theorem own_empty3 (w : World) (e : TypeId) : (w.alloc (.cells #[] e)).ownsRow w.heap.size e 3 (.slice (some ⟨w.heap.size, 0, none⟩) 0 0) 0 [] :=
  ⟨by simp, .inr ⟨w.heap.size, 0, #[], rfl, Nat.le_refl _, (by show (w.heap.push _)[w.heap.size]? = _; exact Array.getElem?_push_size), Nat.le_refl _, by unfold maxLen; omega, rfl, rfl⟩⟩

/-- A dep's Hash that is written: the row has deps still. -/
theorem deps_hash {w : World} {base n g c : Nat} {l : List Dp} (h : w.ownsRow base 56 3 (.slice (some ⟨g, 0, none⟩) n c) n (dps l)) (i : Nat) (d : Dp) (hd : l[i]? = some d) (z : Int) :
    (w.setCell ⟨g, i * 3 + 1, none⟩ (.int .u64 z)).ownsRow base 56 3 (.slice (some ⟨g, 0, none⟩) n c) n (dps (l.set i ⟨d.name, z, d.order⟩)) := by
  have hil : i < l.length := (List.getElem?_eq_some_iff.1 hd).1
  have hset : dps (l.set i ⟨d.name, z, d.order⟩) = (dps l).set (i * 3 + 1) (.int .u64 z) := by
    clear h
    induction l generalizing i with
    | nil => simp at hil
    | cons a l ih =>
      cases i with
      | zero =>
        obtain rfl : a = d := by simpa using hd
        rfl
      | succ i =>
        have ih' := ih i (by simpa using hd) (by simpa using hil)
        show Dp.cells a ++ dps (l.set i ⟨d.name, z, d.order⟩) = (Dp.cells a ++ dps l).set ((i + 1) * 3 + 1) (.int .u64 z)
        rw [ih', List.set_append_right _ _ (by simp [Dp.cells]; omega)]
        congr 2
        simp [Dp.cells]; omega
  obtain ⟨h1, ⟨h2, _⟩ | ⟨g', cap, cur, hv, hb, hg, hn, hm, hs, hx⟩⟩ := h
  · cases h2
  · have e1 : g = g' := by injection hv with e; injection e with e; injection e
    have e2 : c = cap := by injection hv
    subst e1 e2
    refine ⟨by rw [dps_len, List.length_set, ← dps_len]; exact h1, .inr ⟨g, c, cur.setIfInBounds (i * 3 + 1) (.int .u64 z), rfl, hb, set_same hg _ _, hn, hm, by simpa using hs, ?_⟩⟩
    rw [hset, ← hx, Array.toList_setIfInBounds]
    rw [List.take_set]

end Go.Proofs.Ytfidfhajnobonaa

/- The writer as it lies; number. -/
namespace Go.Proofs.Ytfidfhajnobonaa
open Go.RowKit

/-- The writer as it lies in memory; its own blocks are in S. -/
def Wr (w : World) (S : Nat → Prop) (bw : Nat) (ver : Int) (bt : Nat) (out : List UInt8) : Prop :=
  S bw ∧ ∃ va, w.heap[bw]? = some (.cells #[.int .i64 ver, .pointer (some ⟨bt, 0, none⟩), va] 87 (0, 0)) ∧ w.ownsRow 0 5 1 va out.length (out.map bv) ∧ (∀ k, va.ownBlock = some k → S k)

/-- A row of bytes put behind the writer's. -/
theorem wr_step {w w2 w3 : World} {S : Nat → Prop} {bw bt : Nat} {ver : Int} {out xs : List UInt8} {va v' : Value} (hSb : S bw) (hh : w.heap[bw]? = some (.cells #[.int .i64 ver, .pointer (some ⟨bt, 0, none⟩), va] 87 (0, 0))) (hown : w.ownsRow 0 5 1 va out.length (out.map bv)) (hs : ∀ k, va.ownBlock = some k → S k) (hS : ∀ k, w.heap.size ≤ k → S k)
    (hb : Below w.heap.size w w2) (ho : w3.ownsRow 0 5 1 v' (out.length + xs.length) (out.map bv ++ xs.map bv)) (hg : w2.grownBy w3 va.ownBlock) (hv : v'.ownBlock = va.ownBlock ∨ v'.ownBlock = some w2.heap.size) :
    Wr (w3.setCell ⟨bw, 2, none⟩ v') S bw ver bt (out ++ xs) ∧ Turn S w (w3.setCell ⟨bw, 2, none⟩ v') ∧ w3.heap[bw]? = some (.cells #[.int .i64 ver, .pointer (some ⟨bt, 0, none⟩), va] 87 (0, 0)) := by
  have hlt : bw < w.heap.size := by
    rcases Nat.lt_or_ge bw w.heap.size with h | h
    · exact h
    · rw [Array.getElem?_eq_none h] at hh; cases hh
  rw [← List.length_append, ← List.map_append] at ho
  have hne : va.ownBlock ≠ some bw := own_cells hown hh (by decide)
  have h2 := (hb.block bw hlt).trans hh
  have h3 := (hg.block bw (Nat.lt_of_lt_of_le hlt hb.size) (fun h => hne h.symm)).trans h2
  have hne' : v'.ownBlock ≠ some bw := own_cells ho h3 (by decide)
  refine ⟨⟨hSb, v', ?_, ownsRow_setCell_other ho hne' _, fun k hk => ?_⟩, (((Turn.of_below hb).grown hg (fun i hi _ => hs i hi)).setCell _ _ _ hSb), h3⟩
  · exact set_same h3 2 v'
  · rcases hv with h | h
    · exact hs k (h ▸ hk)
    · rw [h] at hk
      obtain rfl : w2.heap.size = k := by simpa using hk
      exact hS _ hb.size

theorem own_lax {w w2 : World} {n : Nat} {v : Value} {xs : List UInt8} (h : w.ownsRow 0 5 1 v n (xs.map bv)) (hb : Below w.heap.size w w2) : w2.ownsRow 0 5 1 v n (xs.map bv) := own_below h hb

set_option maxRecDepth 100000 in
set_option maxHeartbeats 1000000 in
theorem number_w (S : Nat → Prop) (bw bt k : Nat) (ver : Int) (out : List UInt8) (hk : k < top) (hbig : out.length ≤ 1000000000) (w : World) (hS : ∀ k, w.heap.size ≤ k → S k) (h : Wr w S bw ver bt out) :
    Calls Try.prog 73 #[.pointer (some ⟨bw, 0, none⟩), .int .u64 (k : Int)] w fun e w' => e = .returned (.tuple #[]) ∧ Wr w' S bw ver bt (out ++ (vb k)) ∧ Turn S w w' := by
  obtain ⟨i0, ii0, iz0, iz1, iz2⟩ := info_parts info5
  obtain ⟨hSb, va, hh, hown, hs⟩ := h
  have q0 := at_cell (i := 0) hh rfl
  have q2 := at_cell (i := 2) hh rfl
  have HP := Lib.hid (fun W => put_nil k hk W)
  have HVB : Hid ((vb k).length ≤ 10) := vb_len k hk
  have HH := Lib.hid hh
  have HO := Lib.hid hown
  have HBIG := Lib.hid hbig
  have FIN : Hid (∀ {w2 w3 : World} {v' : Value} {xs : List UInt8}, Below w.heap.size w w2 → w3.ownsRow 0 5 1 v' (out.length + xs.length) (out.map bv ++ xs.map bv) → w2.grownBy w3 va.ownBlock → (v'.ownBlock = va.ownBlock ∨ v'.ownBlock = some w2.heap.size) → Wr (w3.setCell ⟨bw, 2, none⟩ v') S bw ver bt (out ++ xs) ∧ Turn S w (w3.setCell ⟨bw, 2, none⟩ v') ∧ w3.heap[bw]? = some (.cells #[.int .i64 ver, .pointer (some ⟨bt, 0, none⟩), va] 87 (0, 0))) := wr_step hSb hh hown hs hS
  have HLT : Hid (bw < w.heap.size) := by
    show _ < _
    rcases Nat.lt_or_ge bw w.heap.size with h | h
    · exact h
    · rw [Array.getElem?_eq_none h] at hh; cases hh
  clear hh hown hbig hs hS hSb
  go_enter Try.func73, Try.ntmps73
  refine wp_region_held (S := fun _ => True) (by kernel_rfl) ?_
  refine h_take 0 (.pointer (some ⟨bw, 0, none⟩)) rfl (by kernel_rfl) (by kernel_rfl) (by kernel_rfl) (fun _ _ _ h => h) (by kernel_rfl) trivial (fun _ _ => by kernel_rfl) ?_
  refine h_take 1 (.pointer (some ⟨bw, 0, none⟩)) rfl (by kernel_rfl) (by kernel_rfl) (by kernel_rfl) (fun _ _ _ h => h) (by kernel_rfl) trivial (fun _ _ => by kernel_rfl) ?_
  refine h_take 2 (.pointer (some ⟨bw, 0, none⟩)) rfl (by kernel_rfl) (by kernel_rfl) (by kernel_rfl) (fun _ _ _ h => h) (by kernel_rfl) trivial (fun _ _ => by kernel_rfl) ?_
  refine h_take 3 (.pointer (some ⟨bw, 2, none⟩)) rfl (by kernel_rfl) (by kernel_rfl) (by kernel_rfl) (fun _ _ _ h => h) (by kernel_rfl) trivial (fun _ _ => by kernel_rfl) ?_
  refine h_take 5 (.int .u64 (k : Int)) rfl (by kernel_rfl) (by kernel_rfl) (by kernel_rfl) (fun _ _ _ h => h) (by kernel_rfl) trivial (fun _ _ => by kernel_rfl) ?_
  refine h_either 4 6 rfl rfl (by kernel_rfl) (by kernel_rfl) (by kernel_rfl) (fun K hK => ?_) (fun K hK => ?_)
  · go_simp
    refine hK _ _ trivial ?_
    clear hK K
    refine h_one 6 rfl (by kernel_rfl) (by kernel_rfl) (fun K hK => ?_)
    go_simp
    refine (HP.out _).mono ?_
    rintro e w2 ⟨v2, rfl, ho2, hb2⟩
    have HB2 : Below w.heap.size w w2 := ((Below.refl _ w).drew).trans hb2
    refine hK _ _ trivial ?_
    clear hK K
    refine h_one 7 rfl (by kernel_rfl) (by kernel_rfl) (fun K hK => ?_)
    obtain ⟨A2, c2, rfl, hc2⟩ := own_slice ho2
    refine wp_append_many (.tmp 8) (.tmp 10) 44 rfl 0 5 i0 _ 1 1 Try.underlying44 ii0 iz0 iz1 iz2 rfl (by decide) va out.length (out.map bv) rfl (own_lax HO.out HB2) A2 (vb k).length c2 w2.heap.size ((vb k).map bv) rfl hc2 (Reads.of_own ho2) (bv_one _) (by have h1 := HBIG.out; have h2 := HVB.out; unfold maxLen; omega) (by have h1 := HBIG.out; have h2 := HVB.out; omega) (by omega) ?_
    intro v3 w3 ho3 hg3 hv3
    obtain ⟨hf1, hf2, hf3⟩ := FIN.out HB2 ho3 hg3 hv3
    obtain ⟨A3, c3, rfl, _⟩ := own_slice ho3
    refine hK _ _ trivial ?_
    clear hK K
    refine h_take 8 (.pointer (some ⟨bw, 0, none⟩)) rfl (by kernel_rfl) (by kernel_rfl) (by kernel_rfl) (fun _ _ _ h => h) (by kernel_rfl) trivial (fun _ _ => by kernel_rfl) ?_
    refine h_take 9 (.pointer (some ⟨bw, 2, none⟩)) rfl (by kernel_rfl) (by kernel_rfl) (by kernel_rfl) (fun _ _ _ h => h) (by kernel_rfl) trivial (fun _ _ => by kernel_rfl) ?_
    refine h_one 10 rfl (by kernel_rfl) (by kernel_rfl) (fun K hK => ?_)
    have p2 := at_cell (i := 2) hf3 rfl
    have z2 := at_frozen (i := 2) hf3
    go_simp
    refine hK _ _ trivial ?_
    refine wpAnyH_done (by kernel_rfl) ?_ _
    go_simp
    go_end0
    exact ⟨rfl, hf1, hf2⟩
  · go_simp
    refine (HP.out _).mono ?_
    rintro e w2 ⟨v2, rfl, ho2, hb2⟩
    have HB2 : Below w.heap.size w w2 := ((Below.refl _ w).drew).trans hb2
    refine hK _ _ trivial ?_
    clear hK K
    refine h_one 4 rfl (by kernel_rfl) (by kernel_rfl) (fun K hK => ?_)
    have r2 := at_cell (i := 2) ((HB2.block bw HLT.out).trans HH.out) rfl
    go_simp
    refine hK _ _ trivial ?_
    clear hK K
    refine h_one 7 rfl (by kernel_rfl) (by kernel_rfl) (fun K hK => ?_)
    obtain ⟨A2, c2, rfl, hc2⟩ := own_slice ho2
    refine wp_append_many (.tmp 8) (.tmp 10) 44 rfl 0 5 i0 _ 1 1 Try.underlying44 ii0 iz0 iz1 iz2 rfl (by decide) va out.length (out.map bv) rfl (own_lax HO.out HB2) A2 (vb k).length c2 w2.heap.size ((vb k).map bv) rfl hc2 (Reads.of_own ho2) (bv_one _) (by have h1 := HBIG.out; have h2 := HVB.out; unfold maxLen; omega) (by have h1 := HBIG.out; have h2 := HVB.out; omega) (by omega) ?_
    intro v3 w3 ho3 hg3 hv3
    obtain ⟨hf1, hf2, hf3⟩ := FIN.out HB2 ho3 hg3 hv3
    obtain ⟨A3, c3, rfl, _⟩ := own_slice ho3
    refine hK _ _ trivial ?_
    clear hK K
    refine h_take 8 (.pointer (some ⟨bw, 0, none⟩)) rfl (by kernel_rfl) (by kernel_rfl) (by kernel_rfl) (fun _ _ _ h => h) (by kernel_rfl) trivial (fun _ _ => by kernel_rfl) ?_
    refine h_take 9 (.pointer (some ⟨bw, 2, none⟩)) rfl (by kernel_rfl) (by kernel_rfl) (by kernel_rfl) (fun _ _ _ h => h) (by kernel_rfl) trivial (fun _ _ => by kernel_rfl) ?_
    refine h_one 10 rfl (by kernel_rfl) (by kernel_rfl) (fun K hK => ?_)
    have p2 := at_cell (i := 2) hf3 rfl
    have z2 := at_frozen (i := 2) hf3
    go_simp
    refine hK _ _ trivial ?_
    refine wpAnyH_done (by kernel_rfl) ?_ _
    go_simp
    go_end0
    exact ⟨rfl, hf1, hf2⟩

set_option maxRecDepth 100000 in
set_option maxHeartbeats 1000000 in
theorem name_one (S : Nat → Prop) (bw bt : Nat) (t : List UInt8) (ver : Int) (hv : ver < 2) (out : List UInt8) (ht : (blob t).length ≤ 10000) (hbig : out.length ≤ 1000000000) (w : World) (hS : ∀ k, w.heap.size ≤ k → S k) (h : Wr w S bw ver bt out) :
    Calls Try.prog 72 #[.pointer (some ⟨bw, 0, none⟩), .string (tx t)] w fun e w' => e = .returned (.tuple #[]) ∧ Wr w' S bw ver bt (out ++ (blob t)) ∧ Turn S w w' := by
  obtain ⟨i0, ii0, iz0, iz1, iz2⟩ := info_parts info5
  obtain ⟨hSb, va, hh, hown, hs⟩ := h
  have q0 := at_cell (i := 0) hh rfl
  have q2 := at_cell (i := 2) hh rfl
  have HP := Lib.hid (fun W => bput_nil t (by omega) W)
  have HVB := Lib.hid ht
  have d1 : decide (ver < 2) = true := decide_eq_true hv
  have HH := Lib.hid hh
  have HO := Lib.hid hown
  have HBIG := Lib.hid hbig
  have FIN : Hid (∀ {w2 w3 : World} {v' : Value} {xs : List UInt8}, Below w.heap.size w w2 → w3.ownsRow 0 5 1 v' (out.length + xs.length) (out.map bv ++ xs.map bv) → w2.grownBy w3 va.ownBlock → (v'.ownBlock = va.ownBlock ∨ v'.ownBlock = some w2.heap.size) → Wr (w3.setCell ⟨bw, 2, none⟩ v') S bw ver bt (out ++ xs) ∧ Turn S w (w3.setCell ⟨bw, 2, none⟩ v') ∧ w3.heap[bw]? = some (.cells #[.int .i64 ver, .pointer (some ⟨bt, 0, none⟩), va] 87 (0, 0))) := wr_step hSb hh hown hs hS
  have HLT : Hid (bw < w.heap.size) := by
    show _ < _
    rcases Nat.lt_or_ge bw w.heap.size with h | h
    · exact h
    · rw [Array.getElem?_eq_none h] at hh; cases hh
  clear hh hown hbig hs hS hSb
  go_enter Try.func72, Try.ntmps72
  go_wp2_with fail
  refine wp_region_held (S := fun _ => True) (by kernel_rfl) ?_
  refine h_take 0 (.pointer (some ⟨bw, 0, none⟩)) rfl (by kernel_rfl) (by kernel_rfl) (by kernel_rfl) (fun _ _ _ h => h) (by kernel_rfl) trivial (fun _ _ => by kernel_rfl) ?_
  refine h_take 1 (.pointer (some ⟨bw, 0, none⟩)) rfl (by kernel_rfl) (by kernel_rfl) (by kernel_rfl) (fun _ _ _ h => h) (by kernel_rfl) trivial (fun _ _ => by kernel_rfl) ?_
  refine h_take 2 (.pointer (some ⟨bw, 0, none⟩)) rfl (by kernel_rfl) (by kernel_rfl) (by kernel_rfl) (fun _ _ _ h => h) (by kernel_rfl) trivial (fun _ _ => by kernel_rfl) ?_
  refine h_take 3 (.pointer (some ⟨bw, 2, none⟩)) rfl (by kernel_rfl) (by kernel_rfl) (by kernel_rfl) (fun _ _ _ h => h) (by kernel_rfl) trivial (fun _ _ => by kernel_rfl) ?_
  refine h_take 5 (.string (tx t)) rfl (by kernel_rfl) (by kernel_rfl) (by kernel_rfl) (fun _ _ _ h => h) (by kernel_rfl) trivial (fun _ _ => by kernel_rfl) ?_
  refine h_either 4 6 rfl rfl (by kernel_rfl) (by kernel_rfl) (by kernel_rfl) (fun K hK => ?_) (fun K hK => ?_)
  · go_simp
    refine hK _ _ trivial ?_
    clear hK K
    refine h_one 6 rfl (by kernel_rfl) (by kernel_rfl) (fun K hK => ?_)
    go_simp
    refine (HP.out _).mono ?_
    rintro e w2 ⟨v2, rfl, ho2, hb2⟩
    have HB2 : Below w.heap.size w w2 := ((Below.refl _ w).drew).trans hb2
    refine hK _ _ trivial ?_
    clear hK K
    refine h_one 7 rfl (by kernel_rfl) (by kernel_rfl) (fun K hK => ?_)
    obtain ⟨A2, c2, rfl, hc2⟩ := own_slice ho2
    refine wp_append_many (.tmp 13) (.tmp 15) 44 rfl 0 5 i0 _ 1 1 Try.underlying44 ii0 iz0 iz1 iz2 rfl (by decide) va out.length (out.map bv) rfl (own_lax HO.out HB2) A2 (blob t).length c2 w2.heap.size ((blob t).map bv) rfl hc2 (Reads.of_own ho2) (bv_one _) (by have h1 := HBIG.out; have h2 := HVB.out; unfold maxLen; omega) (by have h1 := HBIG.out; have h2 := HVB.out; omega) (by omega) ?_
    intro v3 w3 ho3 hg3 hv3
    obtain ⟨hf1, hf2, hf3⟩ := FIN.out HB2 ho3 hg3 hv3
    obtain ⟨A3, c3, rfl, _⟩ := own_slice ho3
    refine hK _ _ trivial ?_
    clear hK K
    refine h_take 8 (.pointer (some ⟨bw, 0, none⟩)) rfl (by kernel_rfl) (by kernel_rfl) (by kernel_rfl) (fun _ _ _ h => h) (by kernel_rfl) trivial (fun _ _ => by kernel_rfl) ?_
    refine h_take 9 (.pointer (some ⟨bw, 2, none⟩)) rfl (by kernel_rfl) (by kernel_rfl) (by kernel_rfl) (fun _ _ _ h => h) (by kernel_rfl) trivial (fun _ _ => by kernel_rfl) ?_
    refine h_one 10 rfl (by kernel_rfl) (by kernel_rfl) (fun K hK => ?_)
    have p2 := at_cell (i := 2) hf3 rfl
    have z2 := at_frozen (i := 2) hf3
    go_simp
    refine hK _ _ trivial ?_
    refine wpAnyH_done (by kernel_rfl) ?_ _
    go_simp
    go_wp2
    refine bodyPost_ret (results_none rfl _ _ _) rfl ?_
    exact ⟨rfl, hf1, hf2⟩
  · go_simp
    refine (HP.out _).mono ?_
    rintro e w2 ⟨v2, rfl, ho2, hb2⟩
    have HB2 : Below w.heap.size w w2 := ((Below.refl _ w).drew).trans hb2
    refine hK _ _ trivial ?_
    clear hK K
    refine h_one 4 rfl (by kernel_rfl) (by kernel_rfl) (fun K hK => ?_)
    have r2 := at_cell (i := 2) ((HB2.block bw HLT.out).trans HH.out) rfl
    go_simp
    refine hK _ _ trivial ?_
    clear hK K
    refine h_one 7 rfl (by kernel_rfl) (by kernel_rfl) (fun K hK => ?_)
    obtain ⟨A2, c2, rfl, hc2⟩ := own_slice ho2
    refine wp_append_many (.tmp 13) (.tmp 15) 44 rfl 0 5 i0 _ 1 1 Try.underlying44 ii0 iz0 iz1 iz2 rfl (by decide) va out.length (out.map bv) rfl (own_lax HO.out HB2) A2 (blob t).length c2 w2.heap.size ((blob t).map bv) rfl hc2 (Reads.of_own ho2) (bv_one _) (by have h1 := HBIG.out; have h2 := HVB.out; unfold maxLen; omega) (by have h1 := HBIG.out; have h2 := HVB.out; omega) (by omega) ?_
    intro v3 w3 ho3 hg3 hv3
    obtain ⟨hf1, hf2, hf3⟩ := FIN.out HB2 ho3 hg3 hv3
    obtain ⟨A3, c3, rfl, _⟩ := own_slice ho3
    refine hK _ _ trivial ?_
    clear hK K
    refine h_take 8 (.pointer (some ⟨bw, 0, none⟩)) rfl (by kernel_rfl) (by kernel_rfl) (by kernel_rfl) (fun _ _ _ h => h) (by kernel_rfl) trivial (fun _ _ => by kernel_rfl) ?_
    refine h_take 9 (.pointer (some ⟨bw, 2, none⟩)) rfl (by kernel_rfl) (by kernel_rfl) (by kernel_rfl) (fun _ _ _ h => h) (by kernel_rfl) trivial (fun _ _ => by kernel_rfl) ?_
    refine h_one 10 rfl (by kernel_rfl) (by kernel_rfl) (fun K hK => ?_)
    have p2 := at_cell (i := 2) hf3 rfl
    have z2 := at_frozen (i := 2) hf3
    go_simp
    refine hK _ _ trivial ?_
    refine wpAnyH_done (by kernel_rfl) ?_ _
    go_simp
    go_wp2
    refine bodyPost_ret (results_none rfl _ _ _) rfl ?_
    exact ⟨rfl, hf1, hf2⟩

end Go.Proofs.Ytfidfhajnobonaa

/- Rows of records in memory. -/
namespace Go.Proofs.Ytfidfhajnobonaa
open Go.RowKit

/-- A record among others: its fields, where its deps lie, and what they are. -/
structure Rw where
  r : Rc
  A : Option Addr
  n : Nat
  c : Nat
  l : List Dp

def Rw.cells (x : Rw) : List Value := [.int .i64 x.r.kind, .string (tx x.r.target), .int .u64 x.r.rule, .slice x.A x.n x.c, .int .u64 x.r.out, .int .u64 x.r.time, .string (tx x.r.tag)]
def rws (xs : List Rw) : List Value := xs.flatMap Rw.cells
/-- What a record says, wherever its deps lie. -/
def Rw.say (x : Rw) : Rc × List Dp := (x.r, x.l)

theorem cells_len (x : Rw) : x.cells.length = 7 := rfl
theorem rws_nil : rws [] = [] := rfl
theorem rws_cons (x : Rw) (xs : List Rw) : rws (x :: xs) = x.cells ++ rws xs := rfl
theorem rws_app (xs ys : List Rw) : rws (xs ++ ys) = rws xs ++ rws ys := List.flatMap_append
theorem rws_len : ∀ xs : List Rw, (rws xs).length = xs.length * 7
  | [] => rfl
  | x :: xs => by rw [rws_cons, List.length_append, rws_len xs, cells_len, List.length_cons]; omega
theorem rws_at : ∀ (xs : List Rw) (i : Nat) (x : Rw), xs[i]? = some x → ∀ k u, x.cells[k]? = some u → (rws xs)[i * 7 + k]? = some u
  | [], i, x, h => by simp at h
  | a :: xs, 0, x, h => fun k u hu => by
    obtain rfl : a = x := by simpa using h
    have hk : k < 7 := (List.getElem?_eq_some_iff.1 hu).1
    rw [rws_cons, List.getElem?_append_left (by rw [cells_len]; omega), Nat.zero_mul, Nat.zero_add]
    exact hu
  | a :: xs, i + 1, x, h => fun k u hu => by
    rw [rws_cons, List.getElem?_append_right (by rw [cells_len]; omega), cells_len, show (i + 1) * 7 + k - 7 = i * 7 + k by omega]
    exact rws_at xs i x (by simpa using h) k u hu
theorem rws_back : ∀ (xs : List Rw) (j : Nat) (u : Value), (rws xs)[j]? = some u → ∃ x, xs[j / 7]? = some x ∧ x.cells[j % 7]? = some u
  | [], j, u, h => by simp [rws] at h
  | a :: xs, j, u, h => by
    rw [rws_cons] at h
    rcases Nat.lt_or_ge j 7 with hlt | hge
    · rw [List.getElem?_append_left (by rw [cells_len]; exact hlt)] at h
      exact ⟨a, by rw [show j / 7 = 0 by omega]; rfl, by rw [show j % 7 = j by omega]; exact h⟩
    · rw [List.getElem?_append_right (by rw [cells_len]; exact hge), cells_len] at h
      obtain ⟨x, h1, h2⟩ := rws_back xs (j - 7) u h
      exact ⟨x, by rw [show j / 7 = (j - 7) / 7 + 1 by omega]; simpa using h1, by rw [show j % 7 = (j - 7) % 7 by omega]; exact h2⟩
theorem rws_one (xs : List Rw) : ∀ u ∈ rws xs, u.oneCell' = true := by
  intro u hu
  obtain ⟨x, _, hx⟩ := List.mem_flatMap.1 hu
  simp only [Rw.cells, List.mem_cons, List.not_mem_nil, or_false] at hx
  rcases hx with rfl | rfl | rfl | rfl | rfl | rfl | rfl <;> rfl

theorem add_plus (a : Addr) (m k : Nat) : a.add (m + (k + 1)) = ⟨(a.add m).block, (a.add m).off + (k + 1), none⟩ := by
  unfold Addr.add
  by_cases h : m = 0
  · subst h; simp
  · simp [h, Nat.add_assoc]

/-- The cells of one record of a row. -/
theorem recs_cells {W : World} {B : Nat} {A : Option Addr} {n : Nat} {xs : List Rw} (h : Reads W B 7 A n (rws xs)) (i : Nat) (x : Rw) (hx : xs[i]? = some x) :
    ∃ ad : Addr, A = some ad ∧ ad.block < B ∧ W.cell? (ad.add (i * 7)) = some (.int .i64 x.r.kind) ∧ W.cell? ⟨(ad.add (i * 7)).block, (ad.add (i * 7)).off + 1, none⟩ = some (.string (tx x.r.target)) ∧ W.cell? ⟨(ad.add (i * 7)).block, (ad.add (i * 7)).off + 2, none⟩ = some (.int .u64 x.r.rule) ∧ W.cell? ⟨(ad.add (i * 7)).block, (ad.add (i * 7)).off + 3, none⟩ = some (.slice x.A x.n x.c) ∧ W.cell? ⟨(ad.add (i * 7)).block, (ad.add (i * 7)).off + 4, none⟩ = some (.int .u64 x.r.out) ∧ W.cell? ⟨(ad.add (i * 7)).block, (ad.add (i * 7)).off + 5, none⟩ = some (.int .u64 x.r.time) ∧ W.cell? ⟨(ad.add (i * 7)).block, (ad.add (i * 7)).off + 6, none⟩ = some (.string (tx x.r.tag)) := by
  have hn : 0 < n := by
    have h1 := h.1
    rw [rws_len] at h1
    have := (List.getElem?_eq_some_iff.1 hx).1
    omega
  obtain ⟨ad, rfl, hb, hc⟩ := h.2 hn
  have hat := fun k u hu => hc _ _ (rws_at xs i x hx k u hu)
  refine ⟨ad, rfl, hb, hat 0 _ rfl, ?_, ?_, ?_, ?_, ?_, ?_⟩
  · rw [← add_plus ad (i * 7) 0]; exact hat 1 _ rfl
  · rw [← add_plus ad (i * 7) 1]; exact hat 2 _ rfl
  · rw [← add_plus ad (i * 7) 2]; exact hat 3 _ rfl
  · rw [← add_plus ad (i * 7) 3]; exact hat 4 _ rfl
  · rw [← add_plus ad (i * 7) 4]; exact hat 5 _ rfl
  · rw [← add_plus ad (i * 7) 5]; exact hat 6 _ rfl

/-- Records that lie in memory, below a bound. -/
def Recs (w : World) (B : Nat) (A : Option Addr) (n : Nat) (xs : List Rw) : Prop :=
  Reads w B 7 A n (rws xs) ∧ ∀ x ∈ xs, Reads w B 3 x.A x.n (dps x.l) ∧ (x.A = none → x.c = 0)

theorem Recs.len {w : World} {B : Nat} {A : Option Addr} {n : Nat} {xs : List Rw} (h : Recs w B A n xs) : xs.length = n := by
  have := h.1.1
  rw [rws_len] at this
  omega
theorem Recs.more {w : World} {B B' : Nat} {A : Option Addr} {n : Nat} {xs : List Rw} (h : Recs w B A n xs) (hB : B ≤ B') : Recs w B' A n xs :=
  ⟨h.1.more hB, fun x hx => ⟨(h.2 x hx).1.more hB, (h.2 x hx).2⟩⟩
theorem Recs.below {w w' : World} {B : Nat} {A : Option Addr} {n : Nat} {xs : List Rw} (h : Recs w B A n xs) (hb : Below B w w') : Recs w' B A n xs :=
  ⟨h.1.below hb, fun x hx => ⟨(h.2 x hx).1.below hb, (h.2 x hx).2⟩⟩
theorem Recs.nil (w : World) (B : Nat) (A : Option Addr) : Recs w B A 0 [] := ⟨⟨by simp [rws], fun h => absurd h (by omega)⟩, by simp⟩

/-- Deps in memory of their own stay where a row of records grows. -/
theorem deps_kept {w w' : World} {base b n c k : Nat} {A : Option Addr} {l : List Dp} {v : Value} {xs : List Value} (hz : Deps w base A n c l) (hv : w.ownsRow b 26 7 v k xs) (hg : w.grownBy w' v.ownBlock) : Deps w' base A n c l :=
  ⟨own_kept hz.1 (own_apart hv hz.1 (by decide)) hg, hz.2⟩
theorem deps_below {w w' : World} {base n c : Nat} {A : Option Addr} {l : List Dp} (h : Deps w base A n c l) (hb : Below w.heap.size w w') : Deps w' base A n c l := ⟨own_below h.1 hb, h.2⟩
theorem deps_alloc {w : World} {base n c : Nat} {A : Option Addr} {l : List Dp} (h : Deps w base A n c l) (o : Obj) : Deps (w.alloc o) base A n c l := ⟨World.ownsRow.alloc h.1 o, h.2⟩
theorem deps_less {w : World} {base base' n c : Nat} {A : Option Addr} {l : List Dp} (h : Deps w base A n c l) (hb : base' ≤ base) : Deps w base' A n c l := ⟨own_less h.1 hb, h.2⟩

/-- An array of one record, just laid. -/
theorem reads_rec (w : World) (x : Rw) : Reads (w.alloc (.cells #[.int .i64 x.r.kind, .string (tx x.r.target), .int .u64 x.r.rule, .slice x.A x.n x.c, .int .u64 x.r.out, .int .u64 x.r.time, .string (tx x.r.tag)] 26)) (w.heap.size + 1) 7 (some ⟨w.heap.size, 0, none⟩) 1 (rws [x]) := by
  have hh := one_new w (.cells #[.int .i64 x.r.kind, .string (tx x.r.target), .int .u64 x.r.rule, .slice x.A x.n x.c, .int .u64 x.r.out, .int .u64 x.r.time, .string (tx x.r.tag)] 26)
  refine ⟨rfl, fun _ => ⟨_, rfl, by show w.heap.size < _; omega, fun j u hu => ?_⟩⟩
  have hj : j < 7 := (List.getElem?_eq_some_iff.1 hu).1
  have h2 := at_cell (i := j) hh (by simpa [rws, Rw.cells] using hu)
  rw [show (⟨w.heap.size, 0, none⟩ : Addr).add j = ⟨w.heap.size, j, none⟩ from by unfold Addr.add; split <;> simp_all]
  exact h2

theorem recs_row (W : World) (ad : Addr) (P : Rw → Prop) : ∀ n : Nat, (∀ i, i < n → ∃ x : Rw, P x ∧ ∀ k u, x.cells[k]? = some u → W.cell? (ad.add (i * 7 + k)) = some u) →
    ∃ xs : List Rw, xs.length = n ∧ (∀ x ∈ xs, P x) ∧ ∀ i x, xs[i]? = some x → ∀ k u, x.cells[k]? = some u → W.cell? (ad.add (i * 7 + k)) = some u
  | 0, _ => ⟨[], rfl, by simp, by simp⟩
  | n + 1, h => by
    obtain ⟨ts, h1, h2, h3⟩ := recs_row W ad P n (fun i hi => h i (by omega))
    obtain ⟨t, g1, g2⟩ := h n (by omega)
    refine ⟨ts ++ [t], by simp [h1], ?_, ?_⟩
    · intro u hu
      rcases List.mem_append.1 hu with hu | hu
      · exact h2 u hu
      · have : u = t := by simpa using hu
        rw [this]; exact g1
    · intro i u hu
      rcases Nat.lt_or_ge i ts.length with hlt | hge
      · rw [List.getElem?_append_left hlt] at hu
        exact h3 i u hu
      · rw [List.getElem?_append_right hge] at hu
        have hi : i = n := by
          rcases Nat.lt_or_ge (i - ts.length) 1 with h4 | h4
          · omega
          · rw [List.getElem?_eq_none (by simpa using h4)] at hu; cases hu
        subst hi
        rw [h1, Nat.sub_self] at hu
        have : t = u := by simpa using hu
        rw [← this]; exact g2

end Go.Proofs.Ytfidfhajnobonaa

/- The writer's id, name, dep. -/
namespace Go.Proofs.Ytfidfhajnobonaa
open Go.RowKit

/-- How a name is laid. -/
def nmB (ver : Int) (tl : List (List UInt8)) (s : List UInt8) : List UInt8 := if ver < 2 then blob s else vb (tnum tl s)
/-- How a dep's name is laid, and whether it is Order. -/
def depB (ver : Int) (tl : List (List UInt8)) (d : Dp) : List UInt8 := if ver < 3 then nmB ver tl d.name else vb (2 * tnum tl d.name + if d.order then 1 else 0)

theorem tnum_le {tl : List (List UInt8)} {s : List UInt8} (h : tl.length ≤ 1073741824) : tnum tl s ≤ 1073741824 := by
  by_cases hs : s ∈ tl
  · have := tnum_lt hs; omega
  · unfold tnum; rw [if_neg hs]; omega
theorem small_vb {n : Nat} (h : n ≤ 4000000000) : n < top := by unfold top; omega
theorem blob64 {s : List UInt8} (h : s.length ≤ 64) : (blob s).length ≤ 74 := by
  rw [blob_len]
  have := vb_len s.length (small_vb (by omega))
  omega
theorem nmB_len {ver : Int} {tl : List (List UInt8)} {s : List UInt8} (h : s.length ≤ 64) (ht : tl.length ≤ 1073741824) : (nmB ver tl s).length ≤ 74 := by
  unfold nmB
  split
  · exact blob64 h
  · have := vb_len (tnum tl s) (small_vb (by have := tnum_le (s := s) ht; omega)); omega
theorem depB_len {ver : Int} {tl : List (List UInt8)} {d : Dp} (h : d.name.length ≤ 64) (ht : tl.length ≤ 1073741824) : (depB ver tl d).length ≤ 74 := by
  unfold depB
  split
  · exact nmB_len h ht
  · have := vb_len (2 * tnum tl d.name + if d.order then 1 else 0) (small_vb (by have := tnum_le (s := d.name) ht; split <;> omega)); omega

set_option maxRecDepth 100000 in
set_option maxHeartbeats 400000 in
theorem wid_any (S T : Nat → Prop) (bw bt N : Nat) (ver : Int) (out s : List UInt8) (tl : List (List UInt8)) (hs : s.length ≤ 64) (w : World) (h : Wr w S bw ver bt out) (hT : Tab w T bt N tl) :
    Calls Try.prog 75 #[.pointer (some ⟨bw, 0, none⟩), .string (tx s)] w fun e w' => e = .returned (.int .u64 (tnum tl s : Int)) ∧ w = w' := by
  obtain ⟨_, va, hh, _, _⟩ := h
  have q1 := at_cell (i := 1) hh rfl
  have HF := Lib.hid (Find_any T bt N tl s (by unfold maxLen; omega) w hT)
  unfold tsv at HF
  clear hh hT
  go_enter Try.func75, Try.ntmps75
  go_wp2_with (go_at_call 88; refine HF.out.mono ?_; rintro e w2 ⟨rfl, rfl⟩)
  go_ret
  exact ⟨rfl, rfl⟩

set_option maxRecDepth 100000 in
set_option maxHeartbeats 400000 in
theorem name_two (S T : Nat → Prop) (bw bt N : Nat) (ver : Int) (hv : ¬ ver < 2) (out s : List UInt8) (tl : List (List UInt8)) (hs : s.length ≤ 64) (ht : tl.length ≤ 1073741824) (hbig : out.length ≤ 1000000000) (w : World) (hS : ∀ k, w.heap.size ≤ k → S k) (h : Wr w S bw ver bt out) (hT : Tab w T bt N tl) :
    Calls Try.prog 72 #[.pointer (some ⟨bw, 0, none⟩), .string (tx s)] w fun e w' => e = .returned (.tuple #[]) ∧ Wr w' S bw ver bt (out ++ vb (tnum tl s)) ∧ Turn S w w' := by
  have HI := Lib.hid (wid_any S T bw bt N ver out s tl hs w h hT)
  have HN := Lib.hid (number_w S bw bt (tnum tl s) ver out (small_vb (by have := tnum_le (s := s) ht; omega)) hbig w hS h)
  obtain ⟨_, va, hh, _, _⟩ := h
  have q0 := at_cell (i := 0) hh rfl
  have d1 : decide (ver < 2) = false := decide_eq_false hv
  clear hh hT hS hv
  go_enter Try.func72, Try.ntmps72
  go_wp2_with (first
    | (go_at_call 73; refine HN.out.mono ?_; rintro e w3 ⟨rfl, hw3, ht3⟩)
    | (go_at_call 75; refine HI.out.mono ?_; rintro e w2 ⟨rfl, rfl⟩))
  go_end0
  exact ⟨rfl, hw3, ht3⟩

theorem wname_any (S T : Nat → Prop) (bw bt N : Nat) (ver : Int) (out s : List UInt8) (tl : List (List UInt8)) (hs : s.length ≤ 64) (ht : tl.length ≤ 1073741824) (hbig : out.length ≤ 1000000000) (w : World) (hS : ∀ k, w.heap.size ≤ k → S k) (h : Wr w S bw ver bt out) (hT : Tab w T bt N tl) :
    Calls Try.prog 72 #[.pointer (some ⟨bw, 0, none⟩), .string (tx s)] w fun e w' => e = .returned (.tuple #[]) ∧ Wr w' S bw ver bt (out ++ nmB ver tl s) ∧ Turn S w w' := by
  unfold nmB
  by_cases hv : ver < 2
  · rw [if_pos hv]
    exact name_one S bw bt s ver hv out (by have := blob64 hs; omega) hbig w hS h
  · rw [if_neg hv]
    exact name_two S T bw bt N ver hv out s tl hs ht hbig w hS h hT

/-- A world in which a block has been laid. -/
theorem wr_alloc {w : World} {S : Nat → Prop} {bw bt : Nat} {ver : Int} {out : List UInt8} (h : Wr w S bw ver bt out) (o : Obj) : Wr (w.alloc o) S bw ver bt out := by
  obtain ⟨h1, va, h2, h3, h4⟩ := h
  refine ⟨h1, va, (Below.heap_alloc w o bw ?_).trans h2, World.ownsRow.alloc h3 o, h4⟩
  rcases Nat.lt_or_ge bw w.heap.size with h | h
  · exact h
  · rw [Array.getElem?_eq_none h] at h2; cases h2
theorem tab_alloc {w : World} {T : Nat → Prop} {b N : Nat} {l : List (List UInt8)} (h : Tab w T b N l) (o : Obj) : Tab (w.alloc o) T b N l := h.keep fun k _ hk => Below.heap_alloc w o k hk

set_option maxRecDepth 100000 in
set_option maxHeartbeats 400000 in
theorem dep_less (S T : Nat → Prop) (bw bt N : Nat) (ver : Int) (hv : ver < 3) (out : List UInt8) (d : Dp) (tl : List (List UInt8)) (hs : d.name.length ≤ 64) (ht : tl.length ≤ 1073741824) (hbig : out.length ≤ 1000000000) (w : World) (hS : ∀ k, w.heap.size ≤ k → S k) (h : Wr w S bw ver bt out) (hT : Tab w T bt N tl) :
    Calls Try.prog 74 #[.pointer (some ⟨bw, 0, none⟩), .agg #[.string (tx d.name), .int .u64 d.hash, .bool d.order]] w fun e w' => e = .returned (.tuple #[]) ∧ Wr w' S bw ver bt (out ++ nmB ver tl d.name) ∧ Turn S w w' := by
  have hS2 : ∀ k, (w.alloc (.cells #[.string (tx d.name), .int .u64 d.hash, .bool d.order] 56)).heap.size ≤ k → S k := fun k hk => hS k (by simp at hk; omega)
  have HA := Lib.hid (one_new w (.cells #[.string (tx d.name), .int .u64 d.hash, .bool d.order] 56))
  have HTU : Hid (Turn S w (w.alloc (.cells #[.string (tx d.name), .int .u64 d.hash, .bool d.order] 56))) := Turn.of_below ((Below.refl _ w).alloc (Nat.le_refl _) _)
  have hw2 := wr_alloc h (.cells #[.string (tx d.name), .int .u64 d.hash, .bool d.order] 56)
  have HN := Lib.hid (wname_any S T bw bt N ver out d.name tl hs ht hbig _ hS2 hw2 (tab_alloc hT _))
  have d1 : decide (ver < 3) = true := decide_eq_true hv
  obtain ⟨_, va, hh, _, _⟩ := hw2
  have q0 := at_cell (i := 0) hh rfl
  have e0 := at_cell (i := 0) HA.out rfl
  have e1 := at_cell (i := 1) HA.out rfl
  have e2 := at_cell (i := 2) HA.out rfl
  clear hh hT hS hS2 h
  go_enter Try.func74, Try.ntmps74
  go_wp2_with (go_at_call 72; refine HN.out.mono ?_; rintro e w3 ⟨rfl, hw3, ht3⟩)
  first | go_end0 | (refine bodyPost_ret (results_none rfl _ _ _) rfl ?_)
  exact ⟨rfl, hw3, HTU.out.trans ht3 (fun _ _ h => h)⟩

set_option maxRecDepth 100000 in
set_option maxHeartbeats 400000 in
theorem dep_true (S T : Nat → Prop) (bw bt N : Nat) (ver : Int) (hv : ¬ ver < 3) (out : List UInt8) (dn : List UInt8) (dh : Int) (tl : List (List UInt8)) (hs : dn.length ≤ 64) (ht : tl.length ≤ 1073741824) (hbig : out.length ≤ 1000000000) (w : World) (hS : ∀ k, w.heap.size ≤ k → S k) (h : Wr w S bw ver bt out) (hT : Tab w T bt N tl) :
    Calls Try.prog 74 #[.pointer (some ⟨bw, 0, none⟩), .agg #[.string (tx dn), .int .u64 dh, .bool true]] w fun e w' => e = .returned (.tuple #[]) ∧ Wr w' S bw ver bt (out ++ vb (2 * tnum tl dn + 1)) ∧ Turn S w w' := by
  have hS2 : ∀ k, (w.alloc (.cells #[.string (tx dn), .int .u64 dh, .bool true] 56)).heap.size ≤ k → S k := fun k hk => hS k (by simp at hk; omega)
  have HA := Lib.hid (one_new w (.cells #[.string (tx dn), .int .u64 dh, .bool true] 56))
  have HTU : Hid (Turn S w (w.alloc (.cells #[.string (tx dn), .int .u64 dh, .bool true] 56))) := Turn.of_below ((Below.refl _ w).alloc (Nat.le_refl _) _)
  have hw2 := wr_alloc h (.cells #[.string (tx dn), .int .u64 dh, .bool true] 56)
  have HI := Lib.hid (wid_any S T bw bt N ver out dn tl hs _ hw2 (tab_alloc hT _))
  have hle := tnum_le (s := dn) ht
  have HN := Lib.hid (number_w S bw bt (2 * tnum tl dn + 1) ver out (small_vb (by omega)) hbig _ hS2 hw2)
  obtain ⟨m, hm⟩ : ∃ m, m = tnum tl dn := ⟨_, rfl⟩
  rw [← hm] at HI HN hle ⊢
  clear hm
  have d1 : decide (ver < 3) = false := decide_eq_false hv
  push_cast at HN
  obtain ⟨_, va, hh, _, _⟩ := hw2
  have q0 := at_cell (i := 0) hh rfl
  have e0 := at_cell (i := 0) HA.out rfl
  have e1 := at_cell (i := 1) HA.out rfl
  have e2 := at_cell (i := 2) HA.out rfl
  clear hh hT hS hS2 h
  go_enter Try.func74, Try.ntmps74
  go_wp2_with (first
    | (go_at_call 73; refine HN.out.mono ?_; rintro e w3 ⟨rfl, hw3, ht3⟩)
    | (go_at_call 75; refine HI.out.mono ?_; rintro e w2 ⟨rfl, rfl⟩))
  first | go_end0 | (refine bodyPost_ret (results_none rfl _ _ _) rfl ?_)
  exact ⟨rfl, hw3, HTU.out.trans ht3 (fun _ _ h => h)⟩

set_option maxRecDepth 100000 in
set_option maxHeartbeats 400000 in
theorem dep_false (S T : Nat → Prop) (bw bt N : Nat) (ver : Int) (hv : ¬ ver < 3) (out : List UInt8) (dn : List UInt8) (dh : Int) (tl : List (List UInt8)) (hs : dn.length ≤ 64) (ht : tl.length ≤ 1073741824) (hbig : out.length ≤ 1000000000) (w : World) (hS : ∀ k, w.heap.size ≤ k → S k) (h : Wr w S bw ver bt out) (hT : Tab w T bt N tl) :
    Calls Try.prog 74 #[.pointer (some ⟨bw, 0, none⟩), .agg #[.string (tx dn), .int .u64 dh, .bool false]] w fun e w' => e = .returned (.tuple #[]) ∧ Wr w' S bw ver bt (out ++ vb (2 * tnum tl dn)) ∧ Turn S w w' := by
  have hS2 : ∀ k, (w.alloc (.cells #[.string (tx dn), .int .u64 dh, .bool false] 56)).heap.size ≤ k → S k := fun k hk => hS k (by simp at hk; omega)
  have HA := Lib.hid (one_new w (.cells #[.string (tx dn), .int .u64 dh, .bool false] 56))
  have HTU : Hid (Turn S w (w.alloc (.cells #[.string (tx dn), .int .u64 dh, .bool false] 56))) := Turn.of_below ((Below.refl _ w).alloc (Nat.le_refl _) _)
  have hw2 := wr_alloc h (.cells #[.string (tx dn), .int .u64 dh, .bool false] 56)
  have HI := Lib.hid (wid_any S T bw bt N ver out dn tl hs _ hw2 (tab_alloc hT _))
  have hle := tnum_le (s := dn) ht
  have HN := Lib.hid (number_w S bw bt (2 * tnum tl dn) ver out (small_vb (by omega)) hbig _ hS2 hw2)
  obtain ⟨m, hm⟩ : ∃ m, m = tnum tl dn := ⟨_, rfl⟩
  rw [← hm] at HI HN hle ⊢
  clear hm
  have d1 : decide (ver < 3) = false := decide_eq_false hv
  push_cast at HN
  obtain ⟨_, va, hh, _, _⟩ := hw2
  have q0 := at_cell (i := 0) hh rfl
  have e0 := at_cell (i := 0) HA.out rfl
  have e1 := at_cell (i := 1) HA.out rfl
  have e2 := at_cell (i := 2) HA.out rfl
  clear hh hT hS hS2 h
  go_enter Try.func74, Try.ntmps74
  go_wp2_with (first
    | (go_at_call 73; refine HN.out.mono ?_; rintro e w3 ⟨rfl, hw3, ht3⟩)
    | (go_at_call 75; refine HI.out.mono ?_; rintro e w2 ⟨rfl, rfl⟩))
  first | go_end0 | (refine bodyPost_ret (results_none rfl _ _ _) rfl ?_)
  exact ⟨rfl, hw3, HTU.out.trans ht3 (fun _ _ h => h)⟩

theorem dep_any (S T : Nat → Prop) (bw bt N : Nat) (ver : Int) (out : List UInt8) (d : Dp) (tl : List (List UInt8)) (hs : d.name.length ≤ 64) (ht : tl.length ≤ 1073741824) (hbig : out.length ≤ 1000000000) (w : World) (hS : ∀ k, w.heap.size ≤ k → S k) (h : Wr w S bw ver bt out) (hT : Tab w T bt N tl) :
    Calls Try.prog 74 #[.pointer (some ⟨bw, 0, none⟩), .agg #[.string (tx d.name), .int .u64 d.hash, .bool d.order]] w fun e w' => e = .returned (.tuple #[]) ∧ Wr w' S bw ver bt (out ++ depB ver tl d) ∧ Turn S w w' := by
  unfold depB
  by_cases hv : ver < 3
  · rw [if_pos hv]
    exact dep_less S T bw bt N ver hv out d tl hs ht hbig w hS h hT
  · rw [if_neg hv]
    obtain ⟨dn, dh, dor⟩ := d
    cases dor
    · exact dep_false S T bw bt N ver hv out dn dh tl hs ht hbig w hS h hT
    · exact dep_true S T bw bt N ver hv out dn dh tl hs ht hbig w hS h hT

end Go.Proofs.Ytfidfhajnobonaa

/- The writer's fields. -/
namespace Go.Proofs.Ytfidfhajnobonaa
open Go.RowKit

/-- A record's numbers are of 64 bits. -/
def Nums (r : Rc) (l : List Dp) : Prop := (0 ≤ r.rule ∧ r.rule < 18446744073709551616) ∧ (0 ≤ r.out ∧ r.out < 18446744073709551616) ∧ (0 ≤ r.time ∧ r.time < 18446744073709551616) ∧ ∀ d ∈ l, 0 ≤ d.hash ∧ d.hash < 18446744073709551616
theorem num_nat {z : Int} (h : 0 ≤ z ∧ z < 18446744073709551616) : z = ((z.toNat : Nat) : Int) ∧ z.toNat < top := by unfold top; omega

/-- How the fields are laid. -/
def fTag (tl : List (List UInt8)) (r : Rc) : List UInt8 := if r.tag = [] then vb 0 else vb (tnum tl r.tag + 1)
def fDep (ver : Int) (tl : List (List UInt8)) (d : Dp) : List UInt8 := depB ver tl d ++ vb d.hash.toNat
def fDeps (ver : Int) (tl : List (List UInt8)) (l : List Dp) : List UInt8 := vb l.length ++ l.flatMap (fDep ver tl)

theorem Wr.wide {w : World} {S S2 : Nat → Prop} {bw bt : Nat} {ver : Int} {out : List UInt8} (h : Wr w S bw ver bt out) (hs : ∀ k, S k → S2 k) : Wr w S2 bw ver bt out := by
  obtain ⟨h1, va, h2, h3, h4⟩ := h
  exact ⟨hs _ h1, va, h2, h3, fun k hk => hs k (h4 k hk)⟩
theorem Wr.lt {w : World} {S : Nat → Prop} {bw bt : Nat} {ver : Int} {out : List UInt8} (h : Wr w S bw ver bt out) : bw < w.heap.size := by
  obtain ⟨h1, va, h2, h3, h4⟩ := h
  rcases Nat.lt_or_ge bw w.heap.size with h | h
  · exact h
  · rw [Array.getElem?_eq_none h] at h2; cases h2
/-- Behind a block that is none of the writer's. -/
theorem wr_but {w : World} {S : Nat → Prop} {bw bt : Nat} {ver : Int} {out : List UInt8} (h : Wr w S bw ver bt out) (o : Obj) : Wr (w.alloc o) (fun k => S k ∧ k ≠ w.heap.size) bw ver bt out := by
  have hlt := h.lt
  obtain ⟨h1, va, h2, h3, h4⟩ := wr_alloc h o
  obtain ⟨_, va', h2', h3', _⟩ := h
  have e : va = va' := by
    have hh := (Below.heap_alloc w o bw hlt).trans h2'
    rw [h2] at hh
    simpa using hh
  subst e
  exact ⟨⟨h1, by omega⟩, va, h2, h3, fun k hk => ⟨h4 k hk, by have := own_lt h3' k hk; omega⟩⟩
theorem Turn.wide {w w' : World} {S S2 : Nat → Prop} (h : Turn S w w') (hs : ∀ k, S k → S2 k) : Turn S2 w w' := ⟨h.1, h.2.1, h.2.2.1, h.2.2.2.1, fun k hk hn => h.2.2.2.2 k hk (fun hk2 => hn (hs k hk2))⟩

/-- What the writer's calls may lean on: the table, the record, its deps, none of them in the writer's blocks. -/
structure Env (w : World) (S T : Nat → Prop) (bt N : Nat) (tl : List (List UInt8)) (br : Nat) (r : Rc) (A : Option Addr) (n c : Nat) (l : List Dp) (B : Nat) : Prop where
  tab : Tab w T bt N tl
  own : w.heap[br]? = some (.cells #[.int .i64 r.kind, .string (tx r.target), .int .u64 r.rule, .slice A n c, .int .u64 r.out, .int .u64 r.time, .string (tx r.tag)] 26 (0, 0))
  deps : Reads w B 3 A n (dps l)
  apart : ∀ k, T k → ¬ S k
  ner : ¬ S br
  up : ∀ k, S k → B ≤ k
  new : ∀ k, w.heap.size ≤ k → S k
  hB : B ≤ w.heap.size

theorem Env.lt {w : World} {S T : Nat → Prop} {bt N br n c B : Nat} {tl : List (List UInt8)} {r : Rc} {A : Option Addr} {l : List Dp} (h : Env w S T bt N tl br r A n c l B) : br < w.heap.size := by
  have h2 := h.own
  rcases Nat.lt_or_ge br w.heap.size with h | h
  · exact h
  · rw [Array.getElem?_eq_none h] at h2; cases h2
theorem Env.turn {w w' : World} {S T : Nat → Prop} {bt N br n c B : Nat} {tl : List (List UInt8)} {r : Rc} {A : Option Addr} {l : List Dp} (h : Env w S T bt N tl br r A n c l B) (ht : Turn S w w') : Env w' S T bt N tl br r A n c l B where
  tab := h.tab.turn ht (fun k hk _ => h.apart k hk)
  own := (ht.2.2.2.2 br h.lt h.ner).trans h.own
  deps := h.deps.below (ht.below h.up h.hB)
  apart := h.apart
  ner := h.ner
  up := h.up
  new := fun k hk => h.new k (Nat.le_trans ht.2.2.2.1 hk)
  hB := Nat.le_trans h.hB ht.2.2.2.1

/-- A call lays a field. -/
def Lays (fn : Nat) (S : Nat → Prop) (bw : Nat) (ver : Int) (bt br : Nat) (E : World → Prop) (f : List UInt8) : Prop :=
  ∀ (w : World) (out : List UInt8), E w → out.length ≤ 500000000 → Wr w S bw ver bt out → Calls Try.prog fn #[.pointer (some ⟨bw, 0, none⟩), .pointer (some ⟨br, 0, none⟩)] w fun e w' => e = .returned (.tuple #[]) ∧ Wr w' S bw ver bt (out ++ f) ∧ Turn S w w'

section
variable (S T : Nat → Prop) (bw bt N br n c B : Nat) (ver : Int) (tl : List (List UInt8)) (r : Rc) (A : Option Addr) (l : List Dp) (ht : tl.length ≤ 1073741824) (hn : Nums r l)

set_option maxRecDepth 100000 in
set_option maxHeartbeats 400000 in
include ht in
theorem lays_target (hs : r.target.length ≤ 64) : Lays 47 S bw ver bt br (fun w => Env w S T bt N tl br r A n c l B) (nmB ver tl r.target) := by
  intro w out hE hbig h
  have q1 := at_cell (i := 1) hE.own rfl
  have HC := Lib.hid (wname_any S T bw bt N ver out r.target tl hs ht (by omega) w hE.new h hE.tab)
  clear hE h
  go_enter Try.func47, Try.ntmps47
  go_wp2_with (go_at_call 72; refine HC.out.mono ?_; rintro e w3 ⟨rfl, hw3, ht3⟩)
  go_end0
  exact ⟨rfl, hw3, ht3⟩

set_option maxRecDepth 100000 in
set_option maxHeartbeats 400000 in
include hn in
theorem lays_rule : Lays 48 S bw ver bt br (fun w => Env w S T bt N tl br r A n c l B) (vb r.rule.toNat) := by
  intro w out hE hbig h
  have q2 := at_cell (i := 2) hE.own rfl
  have HC := Lib.hid (number_w S bw bt r.rule.toNat ver out (num_nat hn.1).2 (by omega) w hE.new h)
  clear hE h
  have e := (num_nat hn.1).1
  rw [← e] at HC
  clear e
  go_enter Try.func48, Try.ntmps48
  go_wp2_with (go_at_call 73; refine HC.out.mono ?_; rintro e w3 ⟨rfl, hw3, ht3⟩)
  go_end0
  exact ⟨rfl, hw3, ht3⟩

set_option maxRecDepth 100000 in
set_option maxHeartbeats 400000 in
include hn in
theorem lays_out : Lays 50 S bw ver bt br (fun w => Env w S T bt N tl br r A n c l B) (vb r.out.toNat) := by
  intro w out hE hbig h
  have q4 := at_cell (i := 4) hE.own rfl
  have HC := Lib.hid (number_w S bw bt r.out.toNat ver out (num_nat hn.2.1).2 (by omega) w hE.new h)
  clear hE h
  have e := (num_nat hn.2.1).1
  rw [← e] at HC
  clear e
  go_enter Try.func50, Try.ntmps50
  go_wp2_with (go_at_call 73; refine HC.out.mono ?_; rintro e w3 ⟨rfl, hw3, ht3⟩)
  go_end0
  exact ⟨rfl, hw3, ht3⟩

set_option maxRecDepth 100000 in
set_option maxHeartbeats 400000 in
include hn in
theorem lays_when : Lays 51 S bw ver bt br (fun w => Env w S T bt N tl br r A n c l B) (vb r.time.toNat) := by
  intro w out hE hbig h
  have q5 := at_cell (i := 5) hE.own rfl
  have HC := Lib.hid (number_w S bw bt r.time.toNat ver out (num_nat hn.2.2.1).2 (by omega) w hE.new h)
  clear hE h
  have e := (num_nat hn.2.2.1).1
  rw [← e] at HC
  clear e
  go_enter Try.func51, Try.ntmps51
  go_wp2_with (go_at_call 73; refine HC.out.mono ?_; rintro e w3 ⟨rfl, hw3, ht3⟩)
  go_end0
  exact ⟨rfl, hw3, ht3⟩

set_option maxRecDepth 100000 in
set_option maxHeartbeats 400000 in
include ht in
theorem lays_tag (hs : r.tag.length ≤ 64) : Lays 52 S bw ver bt br (fun w => Env w S T bt N tl br r A n c l B) (fTag tl r) := by
  intro w out hE hbig h
  have q6 := at_cell (i := 6) hE.own rfl
  by_cases hz : r.tag = []
  · have HC := Lib.hid (number_w S bw bt 0 ver out (small_vb (by omega)) (by omega) w hE.new h)
    unfold fTag
    rw [if_pos hz]
    rw [hz] at q6
    have d0 : (tx []).toList.isEmpty = true := by rw [tx_toList]; rfl
    clear hE h hz
    go_enter Try.func52, Try.ntmps52
    go_wp2_with (go_at_call 73; refine HC.out.mono ?_; rintro e w3 ⟨rfl, hw3, ht3⟩)
    first | go_end0 | (refine bodyPost_ret (results_none rfl _ _ _) rfl ?_)
    exact ⟨rfl, hw3, ht3⟩
  · have HI := Lib.hid (wid_any S T bw bt N ver out r.tag tl hs w h hE.tab)
    have hle := tnum_le (s := r.tag) ht
    have HC := Lib.hid (number_w S bw bt (tnum tl r.tag + 1) ver out (small_vb (by omega)) (by omega) w hE.new h)
    unfold fTag
    rw [if_neg hz]
    obtain ⟨m, hm⟩ : ∃ m, m = tnum tl r.tag := ⟨_, rfl⟩
    rw [← hm] at HI HC hle ⊢
    clear hm
    push_cast at HC
    have d0 : (tx r.tag).toList.isEmpty = false := by
      rw [tx_toList]
      cases hr : r.tag with
      | nil => exact absurd hr hz
      | cons a b => rfl
    obtain ⟨x, hx⟩ : ∃ x, x = tx r.tag := ⟨_, rfl⟩
    rw [← hx] at q6 HI d0
    clear hE h hz hx
    go_enter Try.func52, Try.ntmps52
    go_wp2_with (first
      | (go_at_call 73; refine HC.out.mono ?_; rintro e w3 ⟨rfl, hw3, ht3⟩)
      | (go_at_call 75; refine HI.out.mono ?_; rintro e w2 ⟨rfl, rfl⟩))
    first | go_end0 | (refine bodyPost_ret (results_none rfl _ _ _) rfl ?_)
    exact ⟨rfl, hw3, ht3⟩

theorem fDep_len {d : Dp} (hd : d.name.length ≤ 64) (hh : 0 ≤ d.hash ∧ d.hash < 18446744073709551616) (ht : tl.length ≤ 1073741824) : (fDep ver tl d).length ≤ 84 := by
  unfold fDep
  rw [List.length_append]
  have h1 := depB_len (ver := ver) hd ht
  have h2 := vb_len _ (num_nat hh).2
  omega
theorem fDeps_take {m : Nat} (hd : ∀ d ∈ l, d.name.length ≤ 64) (hh : ∀ d ∈ l, 0 ≤ d.hash ∧ d.hash < 18446744073709551616) (ht : tl.length ≤ 1073741824) : ((l.take m).flatMap (fDep ver tl)).length ≤ 84 * m := by
  induction m with
  | zero => simp
  | succ m ih =>
    rw [List.take_add_one, List.flatMap_append, List.length_append]
    rcases hx : l[m]? with _ | x
    · simp only [Option.toList_none, List.flatMap_nil, List.length_nil]; omega
    · have := fDep_len ver tl (hd x (List.mem_of_getElem? hx)) (hh x (List.mem_of_getElem? hx)) ht
      simp only [Option.toList_some, List.flatMap_cons, List.flatMap_nil, List.append_nil]; omega

def DpRel (S : Nat → Prop) (bw : Nat) (ver : Int) (bt : Nat) (tl : List (List UInt8)) (l : List Dp) (n : Nat) (out : List UInt8) (w : World) (idx : Value) (wr : World) : Prop :=
  ∃ i : Nat, i ≤ n ∧ idx = .int .i64 (i : Int) ∧ Wr wr S bw ver bt (out ++ (vb l.length ++ (l.take i).flatMap (fDep ver tl))) ∧ Turn S w wr

set_option maxRecDepth 100000 in
set_option maxHeartbeats 1000000 in
include ht hn in
theorem lays_deps (hd : ∀ d ∈ l, d.name.length ≤ 64) (hnn : n ≤ 1000) : Lays 49 S bw ver bt br (fun w => Env w S T bt N tl br r A n c l B) (fDeps ver tl l) := by
  intro w out hE hbig h
  have HL : Hid (l.length = n) := by have := hE.deps.1; rw [dps_len] at this; show _ = _; omega
  have q3 := at_cell (i := 3) hE.own rfl
  have HC := Lib.hid (number_w S bw bt l.length ver out (small_vb (by have := HL.out; omega)) (by omega) w hE.new h)
  rw [HL.out] at HC
  have HE := Lib.hid hE
  have HBIG := Lib.hid hbig
  have HD := Lib.hid hd
  have HH := Lib.hid hn.2.2.2
  have HT := Lib.hid ht
  clear hE h hd hn ht
  go_enter Try.func49, Try.ntmps49
  go_wp2_with (go_at_call 73; refine HC.out.mono ?_; rintro e w3 ⟨rfl, hw3, ht3⟩; have HW3 := Lib.hid hw3; have HT3 := Lib.hid ht3; have p3 := at_cell (i := 3) (HE.out.turn ht3).own rfl; clear hw3 ht3)
  go_loopw [19] (fun idx wr => DpRel S bw ver bt tl l n out w idx wr) (fun idx wr => n - (intOf idx).toNat)
  case atStart => exact ⟨0, by omega, rfl, by rw [HL.out]; simpa using HW3.out, HT3.out⟩
  case round =>
    obtain ⟨i, hi, rfl, hwr, htr⟩ := hrel
    by_cases hlt : i < n
    · obtain ⟨x, hx⟩ : ∃ x, l[i]? = some x := ⟨_, List.getElem?_eq_getElem (by rw [HL.out]; exact hlt)⟩
      have hm := List.mem_of_getElem? hx
      have hxn := HD.out x hm
      have hxh := HH.out x hm
      have hEr := HE.out.turn htr
      obtain ⟨ad, rfl, _, hcx⟩ := hEr.deps.2 (by omega)
      obtain ⟨x0, x1, x2⟩ := dps_at l i x hx
      have k0 := hcx _ _ x0
      have k1 := hcx _ _ x1
      have k2 := hcx _ _ x2
      rw [add_one] at k1
      rw [add_two] at k2
      unfold rsv at k0
      have htake : (l.take (i + 1)).flatMap (fDep ver tl) = (l.take i).flatMap (fDep ver tl) ++ fDep ver tl x := by
        rw [List.take_add_one, hx, List.flatMap_append]; simp
      have HTAKE := Lib.hid htake
      have hlen := fDeps_take ver tl l (m := i) HD.out HH.out HT.out
      have hvl := vb_len l.length (small_vb (by have := HL.out; omega))
      obtain ⟨xn, xh, xo⟩ := x
      simp only at k0 k1 k2 hxn hxh
      have hW5 := wr_but hwr (.cells #[.string (tx xn), .int .u64 xh, .bool xo] 56)
      have hT5 : Turn (fun k => S k ∧ k ≠ wr.heap.size) wr (wr.alloc (.cells #[.string (tx xn), .int .u64 xh, .bool xo] 56)) := Turn.of_below ((Below.refl _ wr).alloc (Nat.le_refl _) _)
      have hS5 : ∀ k, (wr.alloc (.cells #[.string (tx xn), .int .u64 xh, .bool xo] 56)).heap.size ≤ k → S k ∧ k ≠ wr.heap.size := fun k hk => ⟨hEr.new k (by simp at hk; omega), by simp at hk; omega⟩
      have HDEP := Lib.hid (dep_any (fun k => S k ∧ k ≠ wr.heap.size) T bw bt N ver _ ⟨xn, xh, xo⟩ tl hxn HT.out (by have := HBIG.out; simp only [List.length_append]; omega) _ hS5 hW5 (tab_alloc hEr.tab _))
      have hbl := depB_len (ver := ver) (d := ⟨xn, xh, xo⟩) hxn HT.out
      have HNUM : Hid (∀ W, (∀ k, W.heap.size ≤ k → S k) → Wr W S bw ver bt (out ++ (vb l.length ++ (l.take i).flatMap (fDep ver tl)) ++ depB ver tl ⟨xn, xh, xo⟩) → Calls Try.prog 73 #[.pointer (some ⟨bw, 0, none⟩), .int .u64 xh] W fun e w' => e = .returned (.tuple #[]) ∧ Wr w' S bw ver bt (out ++ (vb l.length ++ (l.take i).flatMap (fDep ver tl)) ++ depB ver tl ⟨xn, xh, xo⟩ ++ vb xh.toNat) ∧ Turn S W w') := fun W hSW hWW => by
        have h1 := number_w S bw bt xh.toNat ver _ (num_nat hxh).2 (by have := HBIG.out; simp only [List.length_append]; omega) W hSW hWW
        rw [← (num_nat hxh).1] at h1
        exact h1
      have HBOX := Lib.hid (one_new wr (.cells #[.string (tx xn), .int .u64 xh, .bool xo] 56))
      have b0 := at_cell (i := 0) HBOX.out rfl
      have b1 := at_cell (i := 1) HBOX.out rfl
      have b2 := at_cell (i := 2) HBOX.out rfl
      have HTR := Lib.hid htr
      have HER := Lib.hid hEr
      have HT5 := Lib.hid hT5
      have hi0 : (0 : Int) ≤ (i : Int) := by omega
      have hi1 : (i : Int) < (n : Int) := by omega
      clear hcx x0 x1 x2 hx hm hEr hwr htr hW5 hS5 htake hxn hxh hlen hvl hbl hT5
      go_wp2_with (first
        | (go_at_call 73; refine (HNUM.out _ HNEW.out HW6.out).mono ?_; rintro e w7 ⟨rfl, hw7, ht7⟩; have HW7 := Lib.hid hw7; have HT7 := Lib.hid (HT6.out.trans ht7 (fun _ _ h => h)); clear hw7 ht7)
        | (go_at_call 74; refine HDEP.out.mono ?_; rintro e w6 ⟨rfl, hw6, ht6⟩; have j1 := at_cell (i := 1) ((ht6.2.2.2.2 wr.heap.size (by simp) (fun h => h.2 rfl)).trans HBOX.out) rfl; have HW6 := Lib.hid (hw6.wide (fun k hk => hk.1)); have HT6 := Lib.hid (HTR.out.trans ((HT5.out.trans ht6 (fun _ _ h => h)).wide (fun k hk => hk.1)) (fun _ _ h => h)); have HNEW := Lib.hid (HE.out.turn HT6.out).new; clear hw6 ht6))
      exact ⟨⟨i + 1, by omega, by go_num, by rw [HTAKE.out]; simpa [fDep, List.append_assoc] using HW7.out, HT7.out⟩, by simp [intOf]; omega⟩
    · obtain rfl : i = n := by omega
      rw [List.take_of_length_le (by rw [HL.out]; omega)] at hwr
      have HWR := Lib.hid hwr
      have HTR := Lib.hid htr
      clear hwr htr
      go_wp2
      go_end0
      exact ⟨rfl, HWR.out, HTR.out⟩

end

end Go.Proofs.Ytfidfhajnobonaa

/- schema.fields.of. -/
namespace Go.Proofs.Ytfidfhajnobonaa
open Go.RowKit

/-- Functions in a row, behind others. -/
theorem reads_funs (W : World) (gs : List Value) : Reads (W.alloc (.cells gs.toArray 88)) (W.heap.size + 1) 1 (some ⟨W.heap.size, 0, none⟩) gs.length gs := by
  refine ⟨by simp, fun _ => ⟨_, rfl, by show W.heap.size < _; omega, fun j u hu => ?_⟩⟩
  have h2 := at_cell (w := W.alloc (.cells gs.toArray 88)) (b := W.heap.size) (i := j) (one_new W _) (by simpa using hu)
  rw [show (⟨W.heap.size, 0, none⟩ : Addr).add j = ⟨W.heap.size, j, none⟩ from by unfold Addr.add; split <;> simp_all]
  exact h2
theorem own_funs (W : World) (b : Nat) (gs : List Value) (hb : b ≤ W.heap.size) (hl : gs.length ≤ 1000) : (W.alloc (.cells gs.toArray 88)).ownsRow b 88 1 (.slice (some ⟨W.heap.size, 0, none⟩) gs.length gs.length) gs.length gs :=
  ownsRow_of_block (cap := gs.length) (cs := gs) hb (one_new W _) (Nat.le_refl _) (by unfold maxLen; omega) rfl (by simp)
theorem infoF : (Try.prog.info? 88).map (fun i => (i.zero, i.size, i.bytes)) = some (some .nilFunc, 1, 8) := by kernel_rfl

section
variable (k0 k1 k2 k3 k4 k5 : Nat) (p : Value)

set_option maxRecDepth 100000 in
set_option maxHeartbeats 1000000 in
theorem of_11 (w : World) :
    Calls Try.prog 53 #[.agg #[.func (.func k0) #[p] #[], .func (.func k1) #[p] #[], .func (.func k2) #[p] #[], .func (.func k3) #[p] #[], .func (.func k4) #[p] #[], .func (.func k5) #[p] #[]], .int .i64 1, .int .i64 1] w fun e w' => ∃ v, e = .returned v ∧ w'.ownsRow (w.heap.size + 1) 88 1 v 4 [.func (.func k0) #[p] #[], .func (.func k1) #[p] #[], .func (.func k2) #[p] #[], .func (.func k3) #[p] #[]] ∧ Below w.heap.size w w' := by
  obtain ⟨i0, ii0, iz0, iz1, iz2⟩ := info_parts infoF
  have HA := Lib.hid (one_new w (.cells #[.func (.func k0) #[p] #[], .func (.func k1) #[p] #[], .func (.func k2) #[p] #[], .func (.func k3) #[p] #[], .func (.func k4) #[p] #[], .func (.func k5) #[p] #[]] 90))
  have HB0 := Lib.hid ((Below.refl _ w).alloc (Nat.le_refl _) (.cells #[.func (.func k0) #[p] #[], .func (.func k1) #[p] #[], .func (.func k2) #[p] #[], .func (.func k3) #[p] #[], .func (.func k4) #[p] #[], .func (.func k5) #[p] #[]] 90))
  have HZ : Hid ((w.alloc (.cells #[.func (.func k0) #[p] #[], .func (.func k1) #[p] #[], .func (.func k2) #[p] #[], .func (.func k3) #[p] #[], .func (.func k4) #[p] #[], .func (.func k5) #[p] #[]] 90)).heap.size = w.heap.size + 1) := by show _ = _; simp
  have q0 := at_cell (i := 0) HA.out rfl
  have q1 := at_cell (i := 1) HA.out rfl
  have q2 := at_cell (i := 2) HA.out rfl
  have q3 := at_cell (i := 3) HA.out rfl
  have q4 := at_cell (i := 4) HA.out rfl
  have q5 := at_cell (i := 5) HA.out rfl
  have ho0 := own_funs (w.alloc (.cells #[.func (.func k0) #[p] #[], .func (.func k1) #[p] #[], .func (.func k2) #[p] #[], .func (.func k3) #[p] #[], .func (.func k4) #[p] #[], .func (.func k5) #[p] #[]] 90)) (w.heap.size + 1) [.func (.func k0) #[p] #[], .func (.func k1) #[p] #[], .func (.func k2) #[p] #[], .func (.func k3) #[p] #[]] (by simp) (by simp)
  rw [HZ.out] at ho0
  have HO0 := Lib.hid ho0
  clear ho0
  have HB1 := Lib.hid (HB0.out.alloc (by have h1 := HZ.out; omega) (.cells #[.func (.func k0) #[p] #[], .func (.func k1) #[p] #[], .func (.func k2) #[p] #[], .func (.func k3) #[p] #[]] 88))
  go_enter Try.func53, Try.ntmps53
  go_wp2
  go_ret
  exact ⟨_, rfl, HO0.out, HB1.out⟩

set_option maxRecDepth 100000 in
set_option maxHeartbeats 1000000 in
theorem of_21 (w : World) :
    Calls Try.prog 53 #[.agg #[.func (.func k0) #[p] #[], .func (.func k1) #[p] #[], .func (.func k2) #[p] #[], .func (.func k3) #[p] #[], .func (.func k4) #[p] #[], .func (.func k5) #[p] #[]], .int .i64 2, .int .i64 1] w fun e w' => ∃ v, e = .returned v ∧ w'.ownsRow (w.heap.size + 1) 88 1 v 5 [.func (.func k0) #[p] #[], .func (.func k1) #[p] #[], .func (.func k2) #[p] #[], .func (.func k3) #[p] #[], .func (.func k4) #[p] #[]] ∧ Below w.heap.size w w' := by
  obtain ⟨i0, ii0, iz0, iz1, iz2⟩ := info_parts infoF
  have HA := Lib.hid (one_new w (.cells #[.func (.func k0) #[p] #[], .func (.func k1) #[p] #[], .func (.func k2) #[p] #[], .func (.func k3) #[p] #[], .func (.func k4) #[p] #[], .func (.func k5) #[p] #[]] 90))
  have HB0 := Lib.hid ((Below.refl _ w).alloc (Nat.le_refl _) (.cells #[.func (.func k0) #[p] #[], .func (.func k1) #[p] #[], .func (.func k2) #[p] #[], .func (.func k3) #[p] #[], .func (.func k4) #[p] #[], .func (.func k5) #[p] #[]] 90))
  have HZ : Hid ((w.alloc (.cells #[.func (.func k0) #[p] #[], .func (.func k1) #[p] #[], .func (.func k2) #[p] #[], .func (.func k3) #[p] #[], .func (.func k4) #[p] #[], .func (.func k5) #[p] #[]] 90)).heap.size = w.heap.size + 1) := by show _ = _; simp
  have q0 := at_cell (i := 0) HA.out rfl
  have q1 := at_cell (i := 1) HA.out rfl
  have q2 := at_cell (i := 2) HA.out rfl
  have q3 := at_cell (i := 3) HA.out rfl
  have q4 := at_cell (i := 4) HA.out rfl
  have q5 := at_cell (i := 5) HA.out rfl
  have ho0 := own_funs (w.alloc (.cells #[.func (.func k0) #[p] #[], .func (.func k1) #[p] #[], .func (.func k2) #[p] #[], .func (.func k3) #[p] #[], .func (.func k4) #[p] #[], .func (.func k5) #[p] #[]] 90)) (w.heap.size + 1) [.func (.func k0) #[p] #[], .func (.func k1) #[p] #[], .func (.func k2) #[p] #[], .func (.func k3) #[p] #[]] (by simp) (by simp)
  rw [HZ.out] at ho0
  have HO0 := Lib.hid ho0
  clear ho0
  have HB1 := Lib.hid (HB0.out.alloc (by have h1 := HZ.out; omega) (.cells #[.func (.func k0) #[p] #[], .func (.func k1) #[p] #[], .func (.func k2) #[p] #[], .func (.func k3) #[p] #[]] 88))
  go_enter Try.func53, Try.ntmps53
  have HU0 : Hid (Below (w.heap.size + 1) (w.alloc (.cells #[.func (.func k0) #[p] #[], .func (.func k1) #[p] #[], .func (.func k2) #[p] #[], .func (.func k3) #[p] #[], .func (.func k4) #[p] #[], .func (.func k5) #[p] #[]] 90)) ((w.alloc (.cells #[.func (.func k0) #[p] #[], .func (.func k1) #[p] #[], .func (.func k2) #[p] #[], .func (.func k3) #[p] #[], .func (.func k4) #[p] #[], .func (.func k5) #[p] #[]] 90)).alloc (.cells #[.func (.func k0) #[p] #[], .func (.func k1) #[p] #[], .func (.func k2) #[p] #[], .func (.func k3) #[p] #[]] 88))) := (Below.refl _ _).alloc (by simp) _
  have HS0 : Hid (w.heap.size + 1 ≤ ((w.alloc (.cells #[.func (.func k0) #[p] #[], .func (.func k1) #[p] #[], .func (.func k2) #[p] #[], .func (.func k3) #[p] #[], .func (.func k4) #[p] #[], .func (.func k5) #[p] #[]] 90)).alloc (.cells #[.func (.func k0) #[p] #[], .func (.func k1) #[p] #[], .func (.func k2) #[p] #[], .func (.func k3) #[p] #[]] 88)).heap.size) := by show _ ≤ _; simp
  go_wp2_with (at_builtin; have ho := World.ownsRow.alloc HO0.out (.cells #[.func (.func k4) #[p] #[]] 88); have hb := HB1.out.alloc HB1.out.size (.cells #[.func (.func k4) #[p] #[]] 88); have hr := reads_funs ((w.alloc (.cells #[.func (.func k0) #[p] #[], .func (.func k1) #[p] #[], .func (.func k2) #[p] #[], .func (.func k3) #[p] #[], .func (.func k4) #[p] #[], .func (.func k5) #[p] #[]] 90)).alloc (.cells #[.func (.func k0) #[p] #[], .func (.func k1) #[p] #[], .func (.func k2) #[p] #[], .func (.func k3) #[p] #[]] 88)) [.func (.func k4) #[p] #[]]; refine wpList_append_many _ rfl (.tmp 22) (.tmp 25) 91 rfl (w.heap.size + 1) 88 i0 _ 1 8 Try.underlying91 ii0 iz0 iz1 iz2 rfl (by decide) _ 4 [.func (.func k0) #[p] #[], .func (.func k1) #[p] #[], .func (.func k2) #[p] #[], .func (.func k3) #[p] #[]] rfl ho (some ⟨w.heap.size + 1 + 1, 0, none⟩) 1 1 (w.heap.size + 1 + 1 + 1) [.func (.func k4) #[p] #[]] rfl (by simp) (by simpa using hr) (fun u hu => by obtain rfl := List.mem_singleton.1 hu; rfl) (by unfold maxLen; omega) (by omega) (Nat.le_trans HS0.out (by simp)) ?_; intro v3 w3 ho3 hg3; have HO3 := Lib.hid ho3; have HB3 := Lib.hid (hb.grown hg3 hb.size (fun g hg => by have h1 := own_block HO0.out g hg; omega)); have HS1 : Hid (w.heap.size + 1 ≤ w3.heap.size) := (Nat.le_trans (Nat.le_trans HS0.out (by simp)) hg3.size); have HU1 := Lib.hid ((HU0.out.alloc HS0.out (.cells #[.func (.func k4) #[p] #[]] 88)).grown hg3 (Nat.le_trans HS0.out (by simp)) (fun g hg => own_block HO0.out g hg)); have j5 := (HU1.out.cell (p := ⟨w.heap.size, 5, none⟩) (show w.heap.size < w.heap.size + 1 by omega)).trans (at_cell (i := 5) HA.out rfl); clear ho hb hr ho3 hg3)
  go_ret
  exact ⟨_, rfl, HO3.out, HB3.out⟩

set_option maxRecDepth 100000 in
set_option maxHeartbeats 1000000 in
theorem of_31 (w : World) :
    Calls Try.prog 53 #[.agg #[.func (.func k0) #[p] #[], .func (.func k1) #[p] #[], .func (.func k2) #[p] #[], .func (.func k3) #[p] #[], .func (.func k4) #[p] #[], .func (.func k5) #[p] #[]], .int .i64 3, .int .i64 1] w fun e w' => ∃ v, e = .returned v ∧ w'.ownsRow (w.heap.size + 1) 88 1 v 6 [.func (.func k0) #[p] #[], .func (.func k1) #[p] #[], .func (.func k2) #[p] #[], .func (.func k3) #[p] #[], .func (.func k4) #[p] #[], .func (.func k5) #[p] #[]] ∧ Below w.heap.size w w' := by
  obtain ⟨i0, ii0, iz0, iz1, iz2⟩ := info_parts infoF
  have HA := Lib.hid (one_new w (.cells #[.func (.func k0) #[p] #[], .func (.func k1) #[p] #[], .func (.func k2) #[p] #[], .func (.func k3) #[p] #[], .func (.func k4) #[p] #[], .func (.func k5) #[p] #[]] 90))
  have HB0 := Lib.hid ((Below.refl _ w).alloc (Nat.le_refl _) (.cells #[.func (.func k0) #[p] #[], .func (.func k1) #[p] #[], .func (.func k2) #[p] #[], .func (.func k3) #[p] #[], .func (.func k4) #[p] #[], .func (.func k5) #[p] #[]] 90))
  have HZ : Hid ((w.alloc (.cells #[.func (.func k0) #[p] #[], .func (.func k1) #[p] #[], .func (.func k2) #[p] #[], .func (.func k3) #[p] #[], .func (.func k4) #[p] #[], .func (.func k5) #[p] #[]] 90)).heap.size = w.heap.size + 1) := by show _ = _; simp
  have q0 := at_cell (i := 0) HA.out rfl
  have q1 := at_cell (i := 1) HA.out rfl
  have q2 := at_cell (i := 2) HA.out rfl
  have q3 := at_cell (i := 3) HA.out rfl
  have q4 := at_cell (i := 4) HA.out rfl
  have q5 := at_cell (i := 5) HA.out rfl
  have ho0 := own_funs (w.alloc (.cells #[.func (.func k0) #[p] #[], .func (.func k1) #[p] #[], .func (.func k2) #[p] #[], .func (.func k3) #[p] #[], .func (.func k4) #[p] #[], .func (.func k5) #[p] #[]] 90)) (w.heap.size + 1) [.func (.func k0) #[p] #[], .func (.func k1) #[p] #[], .func (.func k2) #[p] #[], .func (.func k3) #[p] #[]] (by simp) (by simp)
  rw [HZ.out] at ho0
  have HO0 := Lib.hid ho0
  clear ho0
  have HB1 := Lib.hid (HB0.out.alloc (by have h1 := HZ.out; omega) (.cells #[.func (.func k0) #[p] #[], .func (.func k1) #[p] #[], .func (.func k2) #[p] #[], .func (.func k3) #[p] #[]] 88))
  go_enter Try.func53, Try.ntmps53
  have HU0 : Hid (Below (w.heap.size + 1) (w.alloc (.cells #[.func (.func k0) #[p] #[], .func (.func k1) #[p] #[], .func (.func k2) #[p] #[], .func (.func k3) #[p] #[], .func (.func k4) #[p] #[], .func (.func k5) #[p] #[]] 90)) ((w.alloc (.cells #[.func (.func k0) #[p] #[], .func (.func k1) #[p] #[], .func (.func k2) #[p] #[], .func (.func k3) #[p] #[], .func (.func k4) #[p] #[], .func (.func k5) #[p] #[]] 90)).alloc (.cells #[.func (.func k0) #[p] #[], .func (.func k1) #[p] #[], .func (.func k2) #[p] #[], .func (.func k3) #[p] #[]] 88))) := (Below.refl _ _).alloc (by simp) _
  have HS0 : Hid (w.heap.size + 1 ≤ ((w.alloc (.cells #[.func (.func k0) #[p] #[], .func (.func k1) #[p] #[], .func (.func k2) #[p] #[], .func (.func k3) #[p] #[], .func (.func k4) #[p] #[], .func (.func k5) #[p] #[]] 90)).alloc (.cells #[.func (.func k0) #[p] #[], .func (.func k1) #[p] #[], .func (.func k2) #[p] #[], .func (.func k3) #[p] #[]] 88)).heap.size) := by show _ ≤ _; simp
  go_wp2_with (first
    | (at_builtin; have ho := World.ownsRow.alloc HO3.out (.cells #[.func (.func k5) #[p] #[]] 88); have hb := HB3.out.alloc HB3.out.size (.cells #[.func (.func k5) #[p] #[]] 88); have hr := reads_funs w3 [.func (.func k5) #[p] #[]]; refine wpList_append_many _ rfl (.tmp 29) (.tmp 32) 91 rfl (w.heap.size + 1) 88 i0 _ 1 8 Try.underlying91 ii0 iz0 iz1 iz2 rfl (by decide) _ 5 [.func (.func k0) #[p] #[], .func (.func k1) #[p] #[], .func (.func k2) #[p] #[], .func (.func k3) #[p] #[], .func (.func k4) #[p] #[]] rfl ho (some ⟨w3.heap.size, 0, none⟩) 1 1 (w3.heap.size + 1) [.func (.func k5) #[p] #[]] rfl (by simp) (by simpa using hr) (fun u hu => by obtain rfl := List.mem_singleton.1 hu; rfl) (by unfold maxLen; omega) (by omega) (Nat.le_trans HS1.out (by simp)) ?_; intro v4 w4 ho4 hg4; have HO4 := Lib.hid ho4; have HB4 := Lib.hid (hb.grown hg4 hb.size (fun g hg => by have h1 := own_block HO3.out g hg; omega)); have HS2 : Hid (w.heap.size + 1 ≤ w4.heap.size) := (Nat.le_trans (Nat.le_trans HS1.out (by simp)) hg4.size); have HU2 := Lib.hid ((HU1.out.alloc HS1.out (.cells #[.func (.func k5) #[p] #[]] 88)).grown hg4 (Nat.le_trans HS1.out (by simp)) (fun g hg => own_block HO3.out g hg)); have j5 := (HU2.out.cell (p := ⟨w.heap.size, 5, none⟩) (show w.heap.size < w.heap.size + 1 by omega)).trans (at_cell (i := 5) HA.out rfl); clear ho hb hr ho4 hg4)
    | (at_builtin; have ho := World.ownsRow.alloc HO0.out (.cells #[.func (.func k4) #[p] #[]] 88); have hb := HB1.out.alloc HB1.out.size (.cells #[.func (.func k4) #[p] #[]] 88); have hr := reads_funs ((w.alloc (.cells #[.func (.func k0) #[p] #[], .func (.func k1) #[p] #[], .func (.func k2) #[p] #[], .func (.func k3) #[p] #[], .func (.func k4) #[p] #[], .func (.func k5) #[p] #[]] 90)).alloc (.cells #[.func (.func k0) #[p] #[], .func (.func k1) #[p] #[], .func (.func k2) #[p] #[], .func (.func k3) #[p] #[]] 88)) [.func (.func k4) #[p] #[]]; refine wpList_append_many _ rfl (.tmp 22) (.tmp 25) 91 rfl (w.heap.size + 1) 88 i0 _ 1 8 Try.underlying91 ii0 iz0 iz1 iz2 rfl (by decide) _ 4 [.func (.func k0) #[p] #[], .func (.func k1) #[p] #[], .func (.func k2) #[p] #[], .func (.func k3) #[p] #[]] rfl ho (some ⟨w.heap.size + 1 + 1, 0, none⟩) 1 1 (w.heap.size + 1 + 1 + 1) [.func (.func k4) #[p] #[]] rfl (by simp) (by simpa using hr) (fun u hu => by obtain rfl := List.mem_singleton.1 hu; rfl) (by unfold maxLen; omega) (by omega) (Nat.le_trans HS0.out (by simp)) ?_; intro v3 w3 ho3 hg3; have HO3 := Lib.hid ho3; have HB3 := Lib.hid (hb.grown hg3 hb.size (fun g hg => by have h1 := own_block HO0.out g hg; omega)); have HS1 : Hid (w.heap.size + 1 ≤ w3.heap.size) := (Nat.le_trans (Nat.le_trans HS0.out (by simp)) hg3.size); have HU1 := Lib.hid ((HU0.out.alloc HS0.out (.cells #[.func (.func k4) #[p] #[]] 88)).grown hg3 (Nat.le_trans HS0.out (by simp)) (fun g hg => own_block HO0.out g hg)); have j5 := (HU1.out.cell (p := ⟨w.heap.size, 5, none⟩) (show w.heap.size < w.heap.size + 1 by omega)).trans (at_cell (i := 5) HA.out rfl); clear ho hb hr ho3 hg3))
  go_ret
  exact ⟨_, rfl, HO4.out, HB4.out⟩

set_option maxRecDepth 100000 in
set_option maxHeartbeats 1000000 in
theorem of_2 (ver : Int) (w : World) :
    Calls Try.prog 53 #[.agg #[.func (.func k0) #[p] #[], .func (.func k1) #[p] #[], .func (.func k2) #[p] #[], .func (.func k3) #[p] #[], .func (.func k4) #[p] #[], .func (.func k5) #[p] #[]], .int .i64 ver, .int .i64 2] w fun e w' => ∃ v, e = .returned v ∧ w'.ownsRow (w.heap.size + 1) 88 1 v 1 [.func (.func k0) #[p] #[]] ∧ Below w.heap.size w w' := by
  obtain ⟨i0, ii0, iz0, iz1, iz2⟩ := info_parts infoF
  have HA := Lib.hid (one_new w (.cells #[.func (.func k0) #[p] #[], .func (.func k1) #[p] #[], .func (.func k2) #[p] #[], .func (.func k3) #[p] #[], .func (.func k4) #[p] #[], .func (.func k5) #[p] #[]] 90))
  have HB0 := Lib.hid ((Below.refl _ w).alloc (Nat.le_refl _) (.cells #[.func (.func k0) #[p] #[], .func (.func k1) #[p] #[], .func (.func k2) #[p] #[], .func (.func k3) #[p] #[], .func (.func k4) #[p] #[], .func (.func k5) #[p] #[]] 90))
  have HZ : Hid ((w.alloc (.cells #[.func (.func k0) #[p] #[], .func (.func k1) #[p] #[], .func (.func k2) #[p] #[], .func (.func k3) #[p] #[], .func (.func k4) #[p] #[], .func (.func k5) #[p] #[]] 90)).heap.size = w.heap.size + 1) := by show _ = _; simp
  have q0 := at_cell (i := 0) HA.out rfl
  have q1 := at_cell (i := 1) HA.out rfl
  have q2 := at_cell (i := 2) HA.out rfl
  have q3 := at_cell (i := 3) HA.out rfl
  have q4 := at_cell (i := 4) HA.out rfl
  have q5 := at_cell (i := 5) HA.out rfl
  have ho0 := own_funs (w.alloc (.cells #[.func (.func k0) #[p] #[], .func (.func k1) #[p] #[], .func (.func k2) #[p] #[], .func (.func k3) #[p] #[], .func (.func k4) #[p] #[], .func (.func k5) #[p] #[]] 90)) (w.heap.size + 1) [.func (.func k0) #[p] #[]] (by simp) (by simp)
  rw [HZ.out] at ho0
  have HO0 := Lib.hid ho0
  clear ho0
  have HB1 := Lib.hid (HB0.out.alloc (by have h1 := HZ.out; omega) (.cells #[.func (.func k0) #[p] #[]] 88))
  go_enter Try.func53, Try.ntmps53
  go_wp2
  go_ret
  exact ⟨_, rfl, HO0.out, HB1.out⟩

set_option maxRecDepth 100000 in
set_option maxHeartbeats 1000000 in
theorem of_none (ver k : Int) (hk : k ≠ 1 ∧ k ≠ 2) (w : World) :
    Calls Try.prog 53 #[.agg #[.func (.func k0) #[p] #[], .func (.func k1) #[p] #[], .func (.func k2) #[p] #[], .func (.func k3) #[p] #[], .func (.func k4) #[p] #[], .func (.func k5) #[p] #[]], .int .i64 ver, .int .i64 k] w fun e w' => ∃ v, e = .returned v ∧ w'.ownsRow (w.heap.size + 1) 88 1 v 0 [] ∧ Below w.heap.size w w' := by
  obtain ⟨i0, ii0, iz0, iz1, iz2⟩ := info_parts infoF
  have HA := Lib.hid (one_new w (.cells #[.func (.func k0) #[p] #[], .func (.func k1) #[p] #[], .func (.func k2) #[p] #[], .func (.func k3) #[p] #[], .func (.func k4) #[p] #[], .func (.func k5) #[p] #[]] 90))
  have HB0 := Lib.hid ((Below.refl _ w).alloc (Nat.le_refl _) (.cells #[.func (.func k0) #[p] #[], .func (.func k1) #[p] #[], .func (.func k2) #[p] #[], .func (.func k3) #[p] #[], .func (.func k4) #[p] #[], .func (.func k5) #[p] #[]] 90))
  have HZ : Hid ((w.alloc (.cells #[.func (.func k0) #[p] #[], .func (.func k1) #[p] #[], .func (.func k2) #[p] #[], .func (.func k3) #[p] #[], .func (.func k4) #[p] #[], .func (.func k5) #[p] #[]] 90)).heap.size = w.heap.size + 1) := by show _ = _; simp
  have q0 := at_cell (i := 0) HA.out rfl
  have q1 := at_cell (i := 1) HA.out rfl
  have q2 := at_cell (i := 2) HA.out rfl
  have q3 := at_cell (i := 3) HA.out rfl
  have q4 := at_cell (i := 4) HA.out rfl
  have q5 := at_cell (i := 5) HA.out rfl
  obtain ⟨hk1, hk2⟩ := hk
  have d1 : decide (k = 1) = false := decide_eq_false hk1
  have d2 : (k == 1) = false := by rw [beq_eq_false_iff_ne]; exact hk1
  have d3 : decide (k = 2) = false := decide_eq_false hk2
  have d4 : (k == 2) = false := by rw [beq_eq_false_iff_ne]; exact hk2
  clear hk1 hk2
  go_enter Try.func53, Try.ntmps53
  go_wp2
  go_ret
  exact ⟨_, rfl, World.ownsRow_nil _ _ _ _, HB0.out⟩

end

end Go.Proofs.Ytfidfhajnobonaa

/- schema.written. -/
namespace Go.Proofs.Ytfidfhajnobonaa
open Go.RowKit

/-- What the fields lay, up to one of them. -/
def flat (fl : List (Nat × List UInt8)) : List UInt8 := fl.flatMap Prod.snd
theorem flat_take {fl : List (Nat × List UInt8)} {i : Nat} {x : Nat × List UInt8} (h : fl[i]? = some x) : flat (fl.take (i + 1)) = flat (fl.take i) ++ x.2 := by
  unfold flat
  rw [List.take_add_one, h, List.flatMap_append]; simp
theorem flat_len {fl : List (Nat × List UInt8)} (h : ∀ x ∈ fl, x.2.length ≤ 1000000) : (flat fl).length ≤ 1000000 * fl.length := by
  unfold flat
  induction fl with
  | nil => simp
  | cons a fl ih =>
    have h1 := h a (by simp)
    have h2 := ih (fun x hx => h x (by simp [hx]))
    simp only [List.flatMap_cons, List.length_append, List.length_cons]
    omega

def WrRel (S : Nat → Prop) (bw : Nat) (ver : Int) (bt : Nat) (kb : UInt8) (fl : List (Nat × List UInt8)) (w5 : World) (idx : Value) (wr : World) : Prop :=
  ∃ i : Nat, i ≤ fl.length ∧ idx = .int .i64 (i : Int) ∧ Wr wr S bw ver bt (kb :: flat (fl.take i)) ∧ Turn S w5 wr

set_option maxRecDepth 100000 in
set_option maxHeartbeats 4000000 in
theorem written_core (T : Nat → Prop) (bt N n c : Nat) (ver : Int) (tl : List (List UInt8)) (r : Rc) (A : Option Addr) (l : List Dp) (kb : UInt8) (hk : r.kind = (kb.toNat : Int)) (hk2 : kb.toNat ≤ 2) (fl : List (Nat × List UInt8)) (hfl : fl.length ≤ 6) (hsz : ∀ x ∈ fl, x.2.length ≤ 1000000)
    (hnm : ∀ x ∈ fl, x.1 = 47 ∨ x.1 = 48 ∨ x.1 = 49 ∨ x.1 = 50 ∨ x.1 = 51 ∨ x.1 = 52) (w : World) (hT : Tab w T bt N tl) (hr : Reads w w.heap.size 3 A n (dps l))
    (HOF : Hid (∀ W, Calls Try.prog 53 #[.agg #[.func (.func 47) #[.pointer (some ⟨w.heap.size + 1 + 1, 0, none⟩)] #[], .func (.func 48) #[.pointer (some ⟨w.heap.size + 1 + 1, 0, none⟩)] #[], .func (.func 49) #[.pointer (some ⟨w.heap.size + 1 + 1, 0, none⟩)] #[], .func (.func 50) #[.pointer (some ⟨w.heap.size + 1 + 1, 0, none⟩)] #[], .func (.func 51) #[.pointer (some ⟨w.heap.size + 1 + 1, 0, none⟩)] #[], .func (.func 52) #[.pointer (some ⟨w.heap.size + 1 + 1, 0, none⟩)] #[]], .int .i64 ver, .int .i64 r.kind] W fun e w' => ∃ v, e = .returned v ∧ w'.ownsRow (W.heap.size + 1) 88 1 v fl.length (fl.map fun x => .func (.func x.1) #[.pointer (some ⟨w.heap.size + 1 + 1, 0, none⟩)] #[]) ∧ Below W.heap.size W w'))
    (HLAY : Hid (∀ x ∈ fl, ∀ (S T : Nat → Prop) (B : Nat), Lays x.1 S (w.heap.size + 1 + 1) ver bt w.heap.size (fun W => Env W S T bt N tl w.heap.size r A n c l B) x.2)) :
    Calls Try.prog 24 #[.int .i64 ver, .pointer (some ⟨bt, 0, none⟩), .agg #[.int .i64 r.kind, .string (tx r.target), .int .u64 r.rule, .slice A n c, .int .u64 r.out, .int .u64 r.time, .string (tx r.tag)]] w fun e w' => ∃ v, e = .returned v ∧ w'.ownsRow w.heap.size 5 1 v (kb :: flat fl).length ((kb :: flat fl).map bv) ∧ Below w.heap.size w w' := by
  have hz1 : (w.alloc (.cells #[.int .i64 r.kind, .string (tx r.target), .int .u64 r.rule, .slice A n c, .int .u64 r.out, .int .u64 r.time, .string (tx r.tag)] 26)).heap.size = w.heap.size + 1 := by simp
  have hz2 : ((w.alloc (.cells #[.int .i64 r.kind, .string (tx r.target), .int .u64 r.rule, .slice A n c, .int .u64 r.out, .int .u64 r.time, .string (tx r.tag)] 26)).alloc (.cells #[.int .u8 r.kind] 5)).heap.size = w.heap.size + 1 + 1 := by simp
  have hz3 : (((w.alloc (.cells #[.int .i64 r.kind, .string (tx r.target), .int .u64 r.rule, .slice A n c, .int .u64 r.out, .int .u64 r.time, .string (tx r.tag)] 26)).alloc (.cells #[.int .u8 r.kind] 5)).alloc (.cells #[.int .i64 ver, .pointer (some ⟨bt, 0, none⟩), .slice (some ⟨w.heap.size + 1, 0, none⟩) 1 1] 87)).heap.size = w.heap.size + 1 + 1 + 1 := by simp
  have hz4 : ((((w.alloc (.cells #[.int .i64 r.kind, .string (tx r.target), .int .u64 r.rule, .slice A n c, .int .u64 r.out, .int .u64 r.time, .string (tx r.tag)] 26)).alloc (.cells #[.int .u8 r.kind] 5)).alloc (.cells #[.int .i64 ver, .pointer (some ⟨bt, 0, none⟩), .slice (some ⟨w.heap.size + 1, 0, none⟩) 1 1] 87)).alloc (.cells #[.func (.func 47) #[.pointer (some ⟨w.heap.size + 1 + 1, 0, none⟩)] #[], .func (.func 48) #[.pointer (some ⟨w.heap.size + 1 + 1, 0, none⟩)] #[], .func (.func 49) #[.pointer (some ⟨w.heap.size + 1 + 1, 0, none⟩)] #[], .func (.func 50) #[.pointer (some ⟨w.heap.size + 1 + 1, 0, none⟩)] #[], .func (.func 51) #[.pointer (some ⟨w.heap.size + 1 + 1, 0, none⟩)] #[], .func (.func 52) #[.pointer (some ⟨w.heap.size + 1 + 1, 0, none⟩)] #[]] 90)).heap.size = w.heap.size + 1 + 1 + 1 + 1 := by simp
  have h1 : ((((w.alloc (.cells #[.int .i64 r.kind, .string (tx r.target), .int .u64 r.rule, .slice A n c, .int .u64 r.out, .int .u64 r.time, .string (tx r.tag)] 26)).alloc (.cells #[.int .u8 r.kind] 5)).alloc (.cells #[.int .i64 ver, .pointer (some ⟨bt, 0, none⟩), .slice (some ⟨w.heap.size + 1, 0, none⟩) 1 1] 87)).alloc (.cells #[.func (.func 47) #[.pointer (some ⟨w.heap.size + 1 + 1, 0, none⟩)] #[], .func (.func 48) #[.pointer (some ⟨w.heap.size + 1 + 1, 0, none⟩)] #[], .func (.func 49) #[.pointer (some ⟨w.heap.size + 1 + 1, 0, none⟩)] #[], .func (.func 50) #[.pointer (some ⟨w.heap.size + 1 + 1, 0, none⟩)] #[], .func (.func 51) #[.pointer (some ⟨w.heap.size + 1 + 1, 0, none⟩)] #[], .func (.func 52) #[.pointer (some ⟨w.heap.size + 1 + 1, 0, none⟩)] #[]] 90)).heap[w.heap.size]? = some (.cells #[.int .i64 r.kind, .string (tx r.target), .int .u64 r.rule, .slice A n c, .int .u64 r.out, .int .u64 r.time, .string (tx r.tag)] 26 (0, 0)) := (Below.heap_alloc _ _ _ (by rw [hz3]; omega)).trans ((Below.heap_alloc _ _ _ (by rw [hz2]; omega)).trans ((Below.heap_alloc _ _ _ (by rw [hz1]; omega)).trans (one_new w _)))
  have h2 : ((((w.alloc (.cells #[.int .i64 r.kind, .string (tx r.target), .int .u64 r.rule, .slice A n c, .int .u64 r.out, .int .u64 r.time, .string (tx r.tag)] 26)).alloc (.cells #[.int .u8 r.kind] 5)).alloc (.cells #[.int .i64 ver, .pointer (some ⟨bt, 0, none⟩), .slice (some ⟨w.heap.size + 1, 0, none⟩) 1 1] 87)).alloc (.cells #[.func (.func 47) #[.pointer (some ⟨w.heap.size + 1 + 1, 0, none⟩)] #[], .func (.func 48) #[.pointer (some ⟨w.heap.size + 1 + 1, 0, none⟩)] #[], .func (.func 49) #[.pointer (some ⟨w.heap.size + 1 + 1, 0, none⟩)] #[], .func (.func 50) #[.pointer (some ⟨w.heap.size + 1 + 1, 0, none⟩)] #[], .func (.func 51) #[.pointer (some ⟨w.heap.size + 1 + 1, 0, none⟩)] #[], .func (.func 52) #[.pointer (some ⟨w.heap.size + 1 + 1, 0, none⟩)] #[]] 90)).heap[w.heap.size + 1]? = some (.cells #[.int .u8 r.kind] 5 (0, 0)) := (Below.heap_alloc _ _ _ (by rw [hz3]; omega)).trans ((Below.heap_alloc _ _ _ (by rw [hz2]; omega)).trans (by have h := one_new (w.alloc (.cells #[.int .i64 r.kind, .string (tx r.target), .int .u64 r.rule, .slice A n c, .int .u64 r.out, .int .u64 r.time, .string (tx r.tag)] 26)) (.cells #[.int .u8 r.kind] 5); rw [hz1] at h; exact h))
  have h3 : ((((w.alloc (.cells #[.int .i64 r.kind, .string (tx r.target), .int .u64 r.rule, .slice A n c, .int .u64 r.out, .int .u64 r.time, .string (tx r.tag)] 26)).alloc (.cells #[.int .u8 r.kind] 5)).alloc (.cells #[.int .i64 ver, .pointer (some ⟨bt, 0, none⟩), .slice (some ⟨w.heap.size + 1, 0, none⟩) 1 1] 87)).alloc (.cells #[.func (.func 47) #[.pointer (some ⟨w.heap.size + 1 + 1, 0, none⟩)] #[], .func (.func 48) #[.pointer (some ⟨w.heap.size + 1 + 1, 0, none⟩)] #[], .func (.func 49) #[.pointer (some ⟨w.heap.size + 1 + 1, 0, none⟩)] #[], .func (.func 50) #[.pointer (some ⟨w.heap.size + 1 + 1, 0, none⟩)] #[], .func (.func 51) #[.pointer (some ⟨w.heap.size + 1 + 1, 0, none⟩)] #[], .func (.func 52) #[.pointer (some ⟨w.heap.size + 1 + 1, 0, none⟩)] #[]] 90)).heap[w.heap.size + 1 + 1]? = some (.cells #[.int .i64 ver, .pointer (some ⟨bt, 0, none⟩), .slice (some ⟨w.heap.size + 1, 0, none⟩) 1 1] 87 (0, 0)) := (Below.heap_alloc _ _ _ (by rw [hz3]; omega)).trans (by have h := one_new ((w.alloc (.cells #[.int .i64 r.kind, .string (tx r.target), .int .u64 r.rule, .slice A n c, .int .u64 r.out, .int .u64 r.time, .string (tx r.tag)] 26)).alloc (.cells #[.int .u8 r.kind] 5)) (.cells #[.int .i64 ver, .pointer (some ⟨bt, 0, none⟩), .slice (some ⟨w.heap.size + 1, 0, none⟩) 1 1] 87); rw [hz2] at h; exact h)
  have h4 : ((((w.alloc (.cells #[.int .i64 r.kind, .string (tx r.target), .int .u64 r.rule, .slice A n c, .int .u64 r.out, .int .u64 r.time, .string (tx r.tag)] 26)).alloc (.cells #[.int .u8 r.kind] 5)).alloc (.cells #[.int .i64 ver, .pointer (some ⟨bt, 0, none⟩), .slice (some ⟨w.heap.size + 1, 0, none⟩) 1 1] 87)).alloc (.cells #[.func (.func 47) #[.pointer (some ⟨w.heap.size + 1 + 1, 0, none⟩)] #[], .func (.func 48) #[.pointer (some ⟨w.heap.size + 1 + 1, 0, none⟩)] #[], .func (.func 49) #[.pointer (some ⟨w.heap.size + 1 + 1, 0, none⟩)] #[], .func (.func 50) #[.pointer (some ⟨w.heap.size + 1 + 1, 0, none⟩)] #[], .func (.func 51) #[.pointer (some ⟨w.heap.size + 1 + 1, 0, none⟩)] #[], .func (.func 52) #[.pointer (some ⟨w.heap.size + 1 + 1, 0, none⟩)] #[]] 90)).heap[w.heap.size + 1 + 1 + 1]? = some (.cells #[.func (.func 47) #[.pointer (some ⟨w.heap.size + 1 + 1, 0, none⟩)] #[], .func (.func 48) #[.pointer (some ⟨w.heap.size + 1 + 1, 0, none⟩)] #[], .func (.func 49) #[.pointer (some ⟨w.heap.size + 1 + 1, 0, none⟩)] #[], .func (.func 50) #[.pointer (some ⟨w.heap.size + 1 + 1, 0, none⟩)] #[], .func (.func 51) #[.pointer (some ⟨w.heap.size + 1 + 1, 0, none⟩)] #[], .func (.func 52) #[.pointer (some ⟨w.heap.size + 1 + 1, 0, none⟩)] #[]] 90 (0, 0)) := by have h := one_new (((w.alloc (.cells #[.int .i64 r.kind, .string (tx r.target), .int .u64 r.rule, .slice A n c, .int .u64 r.out, .int .u64 r.time, .string (tx r.tag)] 26)).alloc (.cells #[.int .u8 r.kind] 5)).alloc (.cells #[.int .i64 ver, .pointer (some ⟨bt, 0, none⟩), .slice (some ⟨w.heap.size + 1, 0, none⟩) 1 1] 87)) (.cells #[.func (.func 47) #[.pointer (some ⟨w.heap.size + 1 + 1, 0, none⟩)] #[], .func (.func 48) #[.pointer (some ⟨w.heap.size + 1 + 1, 0, none⟩)] #[], .func (.func 49) #[.pointer (some ⟨w.heap.size + 1 + 1, 0, none⟩)] #[], .func (.func 50) #[.pointer (some ⟨w.heap.size + 1 + 1, 0, none⟩)] #[], .func (.func 51) #[.pointer (some ⟨w.heap.size + 1 + 1, 0, none⟩)] #[], .func (.func 52) #[.pointer (some ⟨w.heap.size + 1 + 1, 0, none⟩)] #[]] 90); rw [hz3] at h; exact h
  have hb4 : Below w.heap.size w ((((w.alloc (.cells #[.int .i64 r.kind, .string (tx r.target), .int .u64 r.rule, .slice A n c, .int .u64 r.out, .int .u64 r.time, .string (tx r.tag)] 26)).alloc (.cells #[.int .u8 r.kind] 5)).alloc (.cells #[.int .i64 ver, .pointer (some ⟨bt, 0, none⟩), .slice (some ⟨w.heap.size + 1, 0, none⟩) 1 1] 87)).alloc (.cells #[.func (.func 47) #[.pointer (some ⟨w.heap.size + 1 + 1, 0, none⟩)] #[], .func (.func 48) #[.pointer (some ⟨w.heap.size + 1 + 1, 0, none⟩)] #[], .func (.func 49) #[.pointer (some ⟨w.heap.size + 1 + 1, 0, none⟩)] #[], .func (.func 50) #[.pointer (some ⟨w.heap.size + 1 + 1, 0, none⟩)] #[], .func (.func 51) #[.pointer (some ⟨w.heap.size + 1 + 1, 0, none⟩)] #[], .func (.func 52) #[.pointer (some ⟨w.heap.size + 1 + 1, 0, none⟩)] #[]] 90)) := ((((Below.refl _ w).alloc (Nat.le_refl _) (.cells #[.int .i64 r.kind, .string (tx r.target), .int .u64 r.rule, .slice A n c, .int .u64 r.out, .int .u64 r.time, .string (tx r.tag)] 26)).alloc (by rw [hz1]; omega) (.cells #[.int .u8 r.kind] 5)).alloc (by rw [hz2]; omega) (.cells #[.int .i64 ver, .pointer (some ⟨bt, 0, none⟩), .slice (some ⟨w.heap.size + 1, 0, none⟩) 1 1] 87)).alloc (by rw [hz3]; omega) (.cells #[.func (.func 47) #[.pointer (some ⟨w.heap.size + 1 + 1, 0, none⟩)] #[], .func (.func 48) #[.pointer (some ⟨w.heap.size + 1 + 1, 0, none⟩)] #[], .func (.func 49) #[.pointer (some ⟨w.heap.size + 1 + 1, 0, none⟩)] #[], .func (.func 50) #[.pointer (some ⟨w.heap.size + 1 + 1, 0, none⟩)] #[], .func (.func 51) #[.pointer (some ⟨w.heap.size + 1 + 1, 0, none⟩)] #[], .func (.func 52) #[.pointer (some ⟨w.heap.size + 1 + 1, 0, none⟩)] #[]] 90)
  have q0 := at_cell (i := 0) h1 rfl
  have p0 := at_cell (i := 0) h4 rfl
  have p1 := at_cell (i := 1) h4 rfl
  have p2 := at_cell (i := 2) h4 rfl
  have p3 := at_cell (i := 3) h4 rfl
  have p4 := at_cell (i := 4) h4 rfl
  have p5 := at_cell (i := 5) h4 rfl
  have hn4 : ((((w.alloc (.cells #[.int .i64 r.kind, .string (tx r.target), .int .u64 r.rule, .slice A n c, .int .u64 r.out, .int .u64 r.time, .string (tx r.tag)] 26)).alloc (.cells #[.int .u8 r.kind] 5)).alloc (.cells #[.int .i64 ver, .pointer (some ⟨bt, 0, none⟩), .slice (some ⟨w.heap.size + 1, 0, none⟩) 1 1] 87)).alloc (.cells #[.nilFunc, .nilFunc, .nilFunc, .nilFunc, .nilFunc, .nilFunc] 90)).heap[w.heap.size + 1 + 1 + 1]? = some (.cells #[.nilFunc, .nilFunc, .nilFunc, .nilFunc, .nilFunc, .nilFunc] 90 (0, 0)) := by have h := one_new (((w.alloc (.cells #[.int .i64 r.kind, .string (tx r.target), .int .u64 r.rule, .slice A n c, .int .u64 r.out, .int .u64 r.time, .string (tx r.tag)] 26)).alloc (.cells #[.int .u8 r.kind] 5)).alloc (.cells #[.int .i64 ver, .pointer (some ⟨bt, 0, none⟩), .slice (some ⟨w.heap.size + 1, 0, none⟩) 1 1] 87)) (.cells #[.nilFunc, .nilFunc, .nilFunc, .nilFunc, .nilFunc, .nilFunc] 90); rw [hz3] at h; exact h
  have f0 := at_cell (i := 0) hn4 rfl
  have y0 := at_frozen (i := 0) hn4
  have f1 := at_cell (i := 1) hn4 rfl
  have y1 := at_frozen (i := 1) hn4
  have f2 := at_cell (i := 2) hn4 rfl
  have y2 := at_frozen (i := 2) hn4
  have f3 := at_cell (i := 3) hn4 rfl
  have y3 := at_frozen (i := 3) hn4
  have f4 := at_cell (i := 4) hn4 rfl
  have y4 := at_frozen (i := 4) hn4
  have f5 := at_cell (i := 5) hn4 rfl
  have y5 := at_frozen (i := 5) hn4
  have q00 := at_cell (i := 0) (one_new w (.cells #[.int .i64 r.kind, .string (tx r.target), .int .u64 r.rule, .slice A n c, .int .u64 r.out, .int .u64 r.time, .string (tx r.tag)] 26)) rfl
  have H1 := Lib.hid h1
  have H2 := Lib.hid h2
  have H3 := Lib.hid h3
  have HB4 := Lib.hid hb4
  have HZ4 := Lib.hid hz4
  have HT := Lib.hid hT
  have HR := Lib.hid hr
  have HNM := Lib.hid hnm
  have HSIZ := Lib.hid hsz
  have HK := Lib.hid hk
  have hkr : 0 ≤ r.kind ∧ r.kind ≤ 2 := by omega
  obtain ⟨m, hm⟩ : ∃ m, m = fl.length := ⟨_, rfl⟩
  have HM := Lib.hid hm
  rw [← hm] at HOF hfl
  clear hz1 hz2 hz3 hz4 h1 h2 h3 h4 hn4 hb4 hT hr hnm hsz hk hk2 hm
  go_enter Try.func24, Try.ntmps24
  go_wp2_with (go_at_call 53; refine (HOF.out _).mono ?_; rintro e w5 ⟨v5, rfl, ho5, hb5⟩; obtain ⟨A5, c5, rfl, hc5⟩ := own_slice ho5; have HO5 := Lib.hid ho5; have HB5 := Lib.hid hb5; have HRD5 := Lib.hid (Reads.of_own ho5); clear ho5 hb5)
  have hz5 : Hid (w.heap.size + 1 + 1 + 1 + 1 ≤ w5.heap.size) := by have h1 := HB5.out.size; rw [HZ4.out] at h1; exact h1
  obtain ⟨S, hS⟩ : ∃ S : Nat → Prop, S = fun k => k = w.heap.size + 1 ∨ k = w.heap.size + 1 + 1 ∨ w5.heap.size ≤ k := ⟨_, rfl⟩
  have hblk : ∀ k, k < w.heap.size + 1 + 1 + 1 + 1 → w5.heap[k]? = ((((w.alloc (.cells #[.int .i64 r.kind, .string (tx r.target), .int .u64 r.rule, .slice A n c, .int .u64 r.out, .int .u64 r.time, .string (tx r.tag)] 26)).alloc (.cells #[.int .u8 r.kind] 5)).alloc (.cells #[.int .i64 ver, .pointer (some ⟨bt, 0, none⟩), .slice (some ⟨w.heap.size + 1, 0, none⟩) 1 1] 87)).alloc (.cells #[.func (.func 47) #[.pointer (some ⟨w.heap.size + 1 + 1, 0, none⟩)] #[], .func (.func 48) #[.pointer (some ⟨w.heap.size + 1 + 1, 0, none⟩)] #[], .func (.func 49) #[.pointer (some ⟨w.heap.size + 1 + 1, 0, none⟩)] #[], .func (.func 50) #[.pointer (some ⟨w.heap.size + 1 + 1, 0, none⟩)] #[], .func (.func 51) #[.pointer (some ⟨w.heap.size + 1 + 1, 0, none⟩)] #[], .func (.func 52) #[.pointer (some ⟨w.heap.size + 1 + 1, 0, none⟩)] #[]] 90)).heap[k]? := fun k hk => HB5.out.block k (by rw [HZ4.out]; exact hk)
  have HWR5 : Hid (Wr w5 S (w.heap.size + 1 + 1) ver bt [kb]) := by
    refine ⟨by rw [hS]; exact .inr (.inl rfl), .slice (some ⟨w.heap.size + 1, 0, none⟩) 1 1, (hblk _ (by omega)).trans H3.out, ?_, fun k hk => ?_⟩
    · refine ownsRow_of_block (cap := 1) (cs := [bv kb]) (Nat.zero_le _) ((hblk _ (by omega)).trans (H2.out.trans ?_)) (Nat.le_refl _) (by unfold maxLen; omega) rfl rfl
      rw [HK.out]
      rfl
    · rw [hS]
      left
      simpa [Value.ownBlock] using hk.symm
  have HENV : Hid (Env w5 S (fun k => T k ∧ k < w.heap.size) bt N tl w.heap.size r A n c l w.heap.size) := {
    tab := (HT.out.wide (fun k h1 h2 => ⟨h1, h2⟩)).keep (fun k hk _ => (HB4.out.trans (HB5.out.mono HB4.out.size)).block k hk.2)
    own := (hblk _ (by omega)).trans H1.out
    deps := HR.out.below (HB4.out.trans (HB5.out.mono HB4.out.size))
    apart := fun k hk => by have := hz5.out; rw [hS]; omega
    ner := by have := hz5.out; rw [hS]; omega
    up := fun k hk => by have := hz5.out; rw [hS] at hk; omega
    new := fun k hk => by rw [hS]; exact .inr (.inr hk)
    hB := by have := hz5.out; omega }
  have HBLK5 : Hid (∀ g, (Value.slice A5 m c5).ownBlock = some g → g < w5.heap.size ∧ ¬ S g) := fun g hg => ⟨own_lt HO5.out g hg, by have h1 := own_block HO5.out g hg; have h2 := own_lt HO5.out g hg; rw [HZ4.out] at h1; rw [hS]; omega⟩
  have HUP : Hid (∀ k, S k → w.heap.size ≤ k) := HENV.out.up
  clear f0 y0 f1 y1 f2 y2 f3 y3 f4 y4 f5 y5 hS hblk HOF p0 p1 p2 p3 p4 p5 q0 q00
  go_loopw [38] (fun idx wr => WrRel S (w.heap.size + 1 + 1) ver bt kb fl w5 idx wr) (fun idx wr => m - (intOf idx).toNat)
  case atStart => exact ⟨0, by omega, rfl, HWR5.out, Turn.refl _ _⟩
  case round =>
    obtain ⟨i, hi, rfl, hwr, htr⟩ := hrel
    rw [← HM.out] at hi
    have HTR := Lib.hid htr
    have HWR := Lib.hid hwr
    by_cases hlt : i < m
    · obtain ⟨x, hx⟩ : ∃ x, fl[i]? = some x := ⟨_, List.getElem?_eq_getElem (by rw [← HM.out]; exact hlt)⟩
      have hmem := List.mem_of_getElem? hx
      have hownr : wr.ownsRow ((((((w.alloc (.cells #[.int .i64 r.kind, .string (tx r.target), .int .u64 r.rule, .slice A n c, .int .u64 r.out, .int .u64 r.time, .string (tx r.tag)] 26)).alloc (.cells #[.int .u8 r.kind] 5)).alloc (.cells #[.int .i64 ver, .pointer (some ⟨bt, 0, none⟩), .slice (some ⟨w.heap.size + 1, 0, none⟩) 1 1] 87)).alloc (.cells #[.func (.func 47) #[.pointer (some ⟨w.heap.size + 1 + 1, 0, none⟩)] #[], .func (.func 48) #[.pointer (some ⟨w.heap.size + 1 + 1, 0, none⟩)] #[], .func (.func 49) #[.pointer (some ⟨w.heap.size + 1 + 1, 0, none⟩)] #[], .func (.func 50) #[.pointer (some ⟨w.heap.size + 1 + 1, 0, none⟩)] #[], .func (.func 51) #[.pointer (some ⟨w.heap.size + 1 + 1, 0, none⟩)] #[], .func (.func 52) #[.pointer (some ⟨w.heap.size + 1 + 1, 0, none⟩)] #[]] 90))).heap.size + 1) 88 1 (.slice A5 m c5) m (fl.map fun x => .func (.func x.1) #[.pointer (some ⟨w.heap.size + 1 + 1, 0, none⟩)] #[]) := own_heap HO5.out (fun g hg => htr.2.2.2.2 g (HBLK5.out g hg).1 (HBLK5.out g hg).2)
      obtain ⟨ad, rfl, _, hcx⟩ := (Reads.of_own hownr).2 (by omega)
      have k0 := hcx i (.func (.func x.1) #[.pointer (some ⟨w.heap.size + 1 + 1, 0, none⟩)] #[]) (by rw [List.getElem?_map, hx]; rfl)
      have HTAKE := Lib.hid (flat_take hx)
      have hlen := flat_len (fl := fl.take i) (fun y hy => HSIZ.out y (List.mem_of_mem_take hy))
      have HCALL := Lib.hid (HLAY.out x hmem S (fun k => T k ∧ k < w.heap.size) w.heap.size wr _ (HENV.out.turn htr) (by simp only [List.length_cons]; have h1 : (fl.take i).length ≤ 6 := (by rw [List.length_take]; omega); omega) hwr)
      have hnum := HNM.out x hmem
      have hi0 : (0 : Int) ≤ (i : Int) := by omega
      have hi1 : (i : Int) < (m : Int) := by omega
      obtain ⟨xn, xf⟩ := x
      simp only at k0 HTAKE HCALL hnum
      clear hx hmem hownr hcx hlen hwr htr
      rcases hnum with rfl | rfl | rfl | rfl | rfl | rfl
      · go_wp2_with (go_at_call 47; refine HCALL.out.mono ?_; rintro e w7 ⟨rfl, hw7, ht7⟩; have HW7 := Lib.hid hw7; have HT7 := Lib.hid (HTR.out.trans ht7 (fun _ _ h => h)); clear hw7 ht7)
        exact ⟨⟨i + 1, by rw [← HM.out]; omega, by go_num, by rw [HTAKE.out]; simpa using HW7.out, HT7.out⟩, by simp [intOf]; omega⟩
      · go_wp2_with (go_at_call 48; refine HCALL.out.mono ?_; rintro e w7 ⟨rfl, hw7, ht7⟩; have HW7 := Lib.hid hw7; have HT7 := Lib.hid (HTR.out.trans ht7 (fun _ _ h => h)); clear hw7 ht7)
        exact ⟨⟨i + 1, by rw [← HM.out]; omega, by go_num, by rw [HTAKE.out]; simpa using HW7.out, HT7.out⟩, by simp [intOf]; omega⟩
      · go_wp2_with (go_at_call 49; refine HCALL.out.mono ?_; rintro e w7 ⟨rfl, hw7, ht7⟩; have HW7 := Lib.hid hw7; have HT7 := Lib.hid (HTR.out.trans ht7 (fun _ _ h => h)); clear hw7 ht7)
        exact ⟨⟨i + 1, by rw [← HM.out]; omega, by go_num, by rw [HTAKE.out]; simpa using HW7.out, HT7.out⟩, by simp [intOf]; omega⟩
      · go_wp2_with (go_at_call 50; refine HCALL.out.mono ?_; rintro e w7 ⟨rfl, hw7, ht7⟩; have HW7 := Lib.hid hw7; have HT7 := Lib.hid (HTR.out.trans ht7 (fun _ _ h => h)); clear hw7 ht7)
        exact ⟨⟨i + 1, by rw [← HM.out]; omega, by go_num, by rw [HTAKE.out]; simpa using HW7.out, HT7.out⟩, by simp [intOf]; omega⟩
      · go_wp2_with (go_at_call 51; refine HCALL.out.mono ?_; rintro e w7 ⟨rfl, hw7, ht7⟩; have HW7 := Lib.hid hw7; have HT7 := Lib.hid (HTR.out.trans ht7 (fun _ _ h => h)); clear hw7 ht7)
        exact ⟨⟨i + 1, by rw [← HM.out]; omega, by go_num, by rw [HTAKE.out]; simpa using HW7.out, HT7.out⟩, by simp [intOf]; omega⟩
      · go_wp2_with (go_at_call 52; refine HCALL.out.mono ?_; rintro e w7 ⟨rfl, hw7, ht7⟩; have HW7 := Lib.hid hw7; have HT7 := Lib.hid (HTR.out.trans ht7 (fun _ _ h => h)); clear hw7 ht7)
        exact ⟨⟨i + 1, by rw [← HM.out]; omega, by go_num, by rw [HTAKE.out]; simpa using HW7.out, HT7.out⟩, by simp [intOf]; omega⟩
    · obtain rfl : i = m := by omega
      rw [HM.out, List.take_length] at hwr
      obtain ⟨hSb, va, hh, hown, hs⟩ := hwr
      have z2 := at_cell (i := 2) hh rfl
      have HOWN := Lib.hid (own_from (base := w.heap.size) hown (fun k hk => HUP.out k (hs k hk)))
      have HBW := Lib.hid ((HB4.out.trans (HB5.out.mono HB4.out.size)).trans (htr.below HUP.out (by have := hz5.out; omega)))
      clear hSb hh hown hs htr
      go_wp2
      go_ret
      exact ⟨_, rfl, HOWN.out, HBW.out⟩

end Go.Proofs.Ytfidfhajnobonaa

/- The document's table: Place, Put, New, Cut. -/
namespace Go.Proofs.Ytfidfhajnobonaa
open Go.RowKit Go.Maps Go.ChangeMaps Go.WideMaps

/-- Where a text stands; -1. -/
def tplace (l : List (List UInt8)) (s : List UInt8) : Int := if s ∈ l then (l.idxOf s : Int) else -1

theorem tplace_at {l : List (List UInt8)} {s t : List UInt8} {i : Nat} (hno : s ∉ l.take i) (hs : l[i]? = some t) (e : t = s) : tplace l s = (i : Int) := by
  subst e
  have hlt : i < l.length := (List.getElem?_eq_some_iff.1 hs).1
  have h1 : l = l.take i ++ l.drop i := (List.take_append_drop i l).symm
  have h2 : l.drop i = t :: l.drop (i + 1) := by
    rw [List.drop_eq_getElem_cons hlt]
    rw [List.getElem?_eq_getElem hlt] at hs
    rw [Option.some.inj hs]
  have hin : t ∈ l := List.mem_of_getElem? hs
  unfold tplace
  rw [if_pos hin]
  have h3 : l.idxOf t = i := by
    conv => lhs; rw [h1, h2]
    rw [List.idxOf_append, if_neg hno, List.length_take, List.idxOf_cons_self]
    omega
  rw [h3]

set_option maxRecDepth 100000 in
set_option maxHeartbeats 400000 in
theorem place_any (L : Option Addr) (n c : Nat) (l : List (List UInt8)) (s : List UInt8) (hn : n ≤ 1073741824) (w : World) (hr : Reads w w.heap.size 1 L n (l.map tsv)) :
    Calls Try.prog 27 #[.slice L n c, tsv s] w fun e w' => e = .returned (.int .i64 (tplace l s)) ∧ w = w' := by
  have hml : l.length = n := by have := hr.1; simpa using this
  have HML := Lib.hid hml
  have HR := Lib.hid hr
  unfold tsv
  clear hml hr
  go_enter Try.func27, Try.ntmps27
  go_wp2
  go_loopw [5] (fun idx wr => ∃ i : Nat, i ≤ n ∧ idx = .int .i64 (i : Int) ∧ s ∉ l.take i ∧ w = wr) (fun idx wr => n - (intOf idx).toNat)
  case atStart => exact ⟨0, by omega, rfl, by simp, rfl⟩
  case round =>
    obtain ⟨i, hi, rfl, hno, rfl⟩ := hrel
    by_cases hlt : i < n
    · obtain ⟨ad, u, rfl, _, hu, hcell⟩ := HR.out.at_ hlt
      obtain ⟨t, hs⟩ : ∃ t, l[i]? = some t := ⟨_, List.getElem?_eq_getElem (by rw [HML.out]; exact hlt)⟩
      obtain rfl : u = tsv t := by rw [List.getElem?_map, hs] at hu; simpa using hu.symm
      unfold tsv at hcell
      by_cases e : t = s
      · have hp := Lib.hid (tplace_at hno hs e)
        subst e
        have hself : ((tx t).toList == (tx t).toList) = true := by simp
        clear hu hs hno
        go_wp2
        go_ret
        rw [hp.out]
        exact ⟨rfl, rfl⟩
      · have hne : ((tx t).toList == (tx s).toList) = false := by
          rw [beq_eq_false_iff_ne]
          intro e2
          exact e (by simpa [tx] using e2)
        have HNO : Hid (s ∉ l.take (i + 1)) := by
          show s ∉ _
          rw [List.take_add_one, hs]
          intro h
          rcases List.mem_append.1 h with h | h
          · exact hno h
          · exact e (show s = t by simpa using h).symm
        clear hu hs hno e
        go_wp2
        exact ⟨⟨i + 1, by omega, by go_num, HNO.out, trivial⟩, by simp [intOf]; omega⟩
    · obtain rfl : i = n := by omega
      have hp : Hid (tplace l s = -1) := by
        show tplace l s = -1
        rw [List.take_of_length_le (by rw [HML.out]; omega)] at hno
        unfold tplace
        rw [if_neg hno]
      clear hno
      go_wp2
      go_ret
      rw [hp.out]
      exact ⟨rfl, rfl⟩

/-- A list that a call was handed, or has made: where it lies. -/
def Lis (w : World) (B : Nat) (v : Value) (l : List (List UInt8)) : Prop := ∃ A n c, v = .slice A n c ∧ n = l.length ∧ n ≤ c ∧ (A = none → c = 0) ∧ Reads w B 1 A n (l.map tsv)

theorem Lis.of_own {w : World} {base n : Nat} {e : TypeId} {v : Value} {l : List (List UInt8)} (h : w.ownsRow base e 1 v n (l.map tsv)) : Lis w w.heap.size v l := by
  obtain ⟨A, c, rfl, hn, hr⟩ := own_reads h
  refine ⟨A, n, c, rfl, by have := hr.1; simpa using this.symm, hn, fun e => ?_, hr⟩
  subst e
  rcases h.2 with ⟨h0, h00⟩ | ⟨g', cap, cur, hv, _⟩
  · injection h0
  · injection hv with hv _ _; cases hv

set_option maxRecDepth 100000 in
set_option maxHeartbeats 400000 in
theorem put_in (v : Value) (l : List (List UInt8)) (s : List UInt8) (hin : s ∈ l) (hn : l.length ≤ 1073741824) (w : World) (hl : Lis w w.heap.size v l) :
    Calls Try.prog 28 #[v, tsv s] w fun e w' => e = .returned v ∧ w = w' := by
  obtain ⟨A, n, c, rfl, hnl, _, _, hr⟩ := hl
  have HP := Lib.hid (place_any A n c l s (by omega) w hr)
  have hge : Hid (tplace l s = ((l.idxOf s : Nat) : Int)) := if_pos hin
  rw [hge.out] at HP
  clear hr hge hnl hin
  generalize l.idxOf s = k at HP
  unfold tsv at HP ⊢
  go_enter Try.func28, Try.ntmps28
  go_wp2_with (go_at_call 27; refine HP.out.mono ?_; rintro e w1 ⟨rfl, rfl⟩)
  go_ret
  exact ⟨rfl, rfl⟩

set_option maxRecDepth 100000 in
set_option maxHeartbeats 400000 in
theorem put_new (v : Value) (l : List (List UInt8)) (s : List UInt8) (hin : s ∉ l) (hn : l.length ≤ 1000000) (w : World) (hl : Lis w w.heap.size v l) :
    Calls Try.prog 28 #[v, tsv s] w fun e w' => ∃ v', e = .returned v' ∧ w'.ownsRow w.heap.size 9 1 v' (l.length + 1) ((l ++ [s]).map tsv) ∧ Below w.heap.size w w' := by
  obtain ⟨is, his, his0, his1, his2⟩ := info_parts tinfo
  obtain ⟨A, n, c, rfl, hnl, _, hA, hr⟩ := hl
  have HP := Lib.hid (place_any A n c l s (by omega) w hr)
  have hge : Hid (tplace l s = (-1 : Int)) := if_neg hin
  rw [hge.out] at HP
  have HR := Lib.hid hr
  have HA := Lib.hid hA
  have HNL := Lib.hid hnl
  have hn6 : n ≤ 1000000 := by omega
  clear hr hge hnl hin hn hA
  unfold tsv at HP ⊢
  have H1 := Lib.hid (own_empty w 9)
  have HB0 := Lib.hid ((Below.refl w.heap.size w).alloc (Nat.le_refl _) (.cells #[] 9))
  go_enter Try.func28, Try.ntmps28
  go_wp2_with (first
    | (go_at_call 27; refine HP.out.mono ?_; rintro e w1 ⟨rfl, rfl⟩)
    | (at_builtin; refine wpList_append_reads _ rfl (.tmp 10) (.tmp 11) 22 rfl w.heap.size 9 is (.string { data := #[] }) 16 Try.underlying22 his his0 his1 his2 rfl _ 0 [] rfl H1.out A n c w.heap.size (l.map tsv) rfl HA.out (HR.out.alloc (Nat.le_refl _) _) (by simp [Value.oneCell', tsv]) (by unfold maxLen; omega) (by omega) (by simp) ?_
       intro v2 w2 ho2 hg2
       rw [Nat.zero_add, List.nil_append] at ho2
       have HO2 := Lib.hid ho2
       have HG2 := Lib.hid hg2
       obtain ⟨A2, c2, rfl, hc2, -⟩ := own_reads ho2
       clear ho2 hg2)
    | (at_builtin; refine wpList_append_own _ rfl (.tmp 12) (.tmp 14) 22 rfl w.heap.size 9 is (.string { data := #[] }) 1 16 Try.underlying22 his his0 his1 his2 rfl (by decide) _ n _ rfl (HO2.out.alloc _) ⟨w2.heap.size, 0, none⟩ 1 1 [.string (tx s)] rfl rfl (cell_one_new _ _ _) (by simp [Value.oneCell']) (by unfold maxLen; omega) (by omega) (by have := HG2.out.size; simp at this; simp; omega) ?_
       intro v3 w3 ho3 hg3 _
       have HO3 := Lib.hid ho3
       have HG3 := Lib.hid hg3
       clear ho3 hg3))
  go_ret
  have h2 := HB0.out.grown HG2.out (by simp) (own_block H1.out)
  have h3 := (h2.alloc h2.size (.cells #[.string (tx s)] 9)).grown HG3.out (by have := h2.size; simp; omega) (own_block HO2.out)
  refine ⟨_, rfl, ?_, h3⟩
  have h4 := HO3.out
  rw [← HNL.out, List.map_append]
  exact h4

/-- A list that the document's functions have made. -/
def Own (w : World) (base : Nat) (v : Value) (l : List (List UInt8)) : Prop := w.ownsRow base 9 1 v l.length (l.map tsv)

theorem Own.below {w w' : World} {base : Nat} {v : Value} {l : List (List UInt8)} (h : Own w base v l) (hb : Below w.heap.size w w') : Own w' base v l := own_below h hb
theorem Own.lis {w : World} {base : Nat} {v : Value} {l : List (List UInt8)} (h : Own w base v l) : Lis w w.heap.size v l := Lis.of_own h
theorem Own.less {w : World} {base base' : Nat} {v : Value} {l : List (List UInt8)} (h : Own w base v l) (hb : base' ≤ base) : Own w base' v l := by
  obtain ⟨h1, h2 | ⟨g, cap, cur, hv, hbg, r⟩⟩ := h
  · exact ⟨h1, .inl h2⟩
  · exact ⟨h1, .inr ⟨g, cap, cur, hv, by omega, r⟩⟩

theorem iput_any (base : Nat) (v : Value) (l : List (List UInt8)) (s : List UInt8) (hn : l.length ≤ 1000000) (w : World) (hb : base ≤ w.heap.size) (hl : Own w base v l) :
    Calls Try.prog 28 #[v, tsv s] w fun e w' => ∃ v', e = .returned v' ∧ Own w' base v' (tput l s) ∧ (v' = v ∨ ∀ g, v'.ownBlock = some g → w.heap.size ≤ g) ∧ Below w.heap.size w w' := by
  by_cases hin : s ∈ l
  · refine (put_in v l s hin (by omega) w hl.lis).mono ?_
    rintro e w' ⟨rfl, rfl⟩
    exact ⟨v, rfl, by rw [tput_in hin]; exact hl, .inl rfl, Below.refl _ _⟩
  · refine (put_new v l s hin hn w hl.lis).mono ?_
    rintro e w' ⟨v', rfl, ho, hb'⟩
    have ho' : Own w' w.heap.size v' (l ++ [s]) := by unfold Own; rw [List.length_append]; exact ho
    exact ⟨v', rfl, by rw [tput_new hin]; exact ho'.less hb, .inr (own_block ho), hb'⟩

set_option maxRecDepth 100000 in
set_option maxHeartbeats 400000 in
theorem rnew_any (L : Option Addr) (m d : Nat) (ts : List (List UInt8)) (hm : m ≤ 1000000) (w : World) (hr : Reads w w.heap.size 1 L m (ts.map tsv)) :
    Calls Try.prog 13 #[.slice L m d] w fun e w' => ∃ v, e = .returned v ∧ Own w' w.heap.size v (tnew ts) ∧ Below w.heap.size w w' := by
  have hml : ts.length = m := by have := hr.1; simpa using this
  have HML := Lib.hid hml
  have HR := Lib.hid hr
  have H1 : Hid (Own (w.alloc (.cells #[] 9)) w.heap.size (.slice (some ⟨w.heap.size, 0, none⟩) 0 0) []) := own_empty w 9
  have HB0 := Lib.hid ((Below.refl w.heap.size w).alloc (Nat.le_refl _) (.cells #[] 9))
  clear hml hr
  go_enter Try.func13, Try.ntmps13
  go_wp2
  go_loopw [3, 4] (fun v idx wr => ∃ i : Nat, i ≤ m ∧ idx = .int .i64 (i : Int) ∧ Own wr w.heap.size v (tnew (ts.take i)) ∧ Below w.heap.size w wr) (fun v idx wr => m - (intOf idx).toNat)
  case atStart => exact ⟨0, by omega, rfl, H1.out, HB0.out⟩
  case round =>
    obtain ⟨i, hi, rfl, ho, hb⟩ := hrel
    by_cases hlt : i < m
    · obtain ⟨ad, u, rfl, _, hu, hcell⟩ := (HR.out.below hb).at_ hlt
      obtain ⟨s, hs⟩ : ∃ s, ts[i]? = some s := ⟨_, List.getElem?_eq_getElem (by rw [HML.out]; exact hlt)⟩
      obtain rfl : u = tsv s := by rw [List.getElem?_map, hs] at hu; simpa using hu.symm
      have htk : ts.take (i + 1) = ts.take i ++ [s] := by rw [List.take_add_one, hs]; rfl
      have hln : (tnew (ts.take i)).length ≤ i := by have := tnew_len (ts.take i); rw [List.length_take] at this; omega
      have hput := iput_any w.heap.size _ (tnew (ts.take i)) s (by omega) wr hb.size ho
      rw [← tnew_snoc, ← htk] at hput
      have HPUT := Lib.hid hput
      have HB := Lib.hid hb
      unfold tsv at hcell HPUT
      clear hu hs htk hln hput ho hb
      go_wp2_with (go_at_call 28; refine HPUT.out.mono ?_; rintro e w1 ⟨v1, rfl, ho1, -, hb1⟩)
      have hsz := HB.out.size
      exact ⟨⟨i + 1, by omega, by go_num, ho1, HB.out.trans (hb1.mono hsz)⟩, by simp [intOf]; omega⟩
    · obtain rfl : i = m := by omega
      have hall : ts.take i = ts := List.take_of_length_le (by rw [HML.out]; omega)
      rw [hall] at ho
      go_wp2
      go_ret
      exact ⟨_, rfl, ho, hb⟩

end Go.Proofs.Ytfidfhajnobonaa

/- The walks of thing, Text. -/
namespace Go.Proofs.Ytfidfhajnobonaa
open Go.RowKit Go.Maps Go.ChangeMaps Go.WideMaps

/-- The text of a number; none. -/
def ttext (l : List (List UInt8)) (i : Nat) : List UInt8 := (l[i]?).getD []

set_option maxRecDepth 100000 in
set_option maxHeartbeats 400000 in
theorem thing_any (S : Nat → Prop) (b N : Nat) (l : List (List UInt8)) (i : Nat) (hl : l.length ≤ 1073741824) (w : World) (h : Tab w S b N l) :
    Calls Try.prog 56 #[.pointer (some ⟨b, 0, none⟩), .int .u64 (i : Int)] w fun e w' => e = .returned (.tuple #[tsv (ttext l i), .bool (decide (i < l.length))]) ∧ w = w' := by
  obtain ⟨L, c, mv, h1, _, h3, _⟩ := h
  have hc0 := field_cell (i := 0) h1 rfl
  have hrd := Reads.of_own h3
  obtain ⟨n, hn⟩ : ∃ n, n = l.length := ⟨_, rfl⟩
  rw [← hn] at hc0 hrd hl ⊢
  have HN := Lib.hid hn
  have hw1 : IntKind.u64.wrap (n : Int) = (n : Int) := by rw [IntKind.wrap_u64]; omega
  clear h1 h3 hn
  by_cases hlt : i < n
  · obtain ⟨ad, u, rfl, _, hu, hcell⟩ := hrd.at_ hlt
    obtain ⟨s, hs⟩ : ∃ s, l[i]? = some s := ⟨_, List.getElem?_eq_getElem (by rw [← HN.out]; exact hlt)⟩
    have e1 : ttext l i = s := by rw [ttext, hs]; rfl
    obtain rfl : u = tsv s := by rw [List.getElem?_map, hs] at hu; simpa using hu.symm
    rw [e1, decide_eq_true hlt]
    unfold tsv at hcell ⊢
    clear hu hs e1 hrd
    go_enter Try.func56, Try.ntmps56
    go_wp2
    go_ret2
    exact ⟨rfl, rfl⟩
  · have e1 : ttext l i = [] := by rw [ttext, List.getElem?_eq_none (by rw [← HN.out]; omega)]; rfl
    have e2 : tsv ([] : List UInt8) = .string ⟨#[]⟩ := rfl
    rw [e1, decide_eq_false hlt, e2]
    clear hrd e1 e2
    go_enter Try.func56, Try.ntmps56
    go_wp2
    go_ret2
    exact ⟨rfl, rfl⟩

set_option maxRecDepth 100000 in
set_option maxHeartbeats 400000 in
theorem Text_any (S : Nat → Prop) (b N : Nat) (l : List (List UInt8)) (i : Nat) (hl : l.length ≤ 1073741824) (w : World) (h : Tab w S b N l) :
    Calls Try.prog 32 #[.pointer (some ⟨b, 0, none⟩), .int .u64 (i : Int)] w fun e w' => e = .returned (.tuple #[tsv (ttext l i), .bool (decide (i < l.length))]) ∧ w = w' := by
  have HF := Lib.hid (thing_any S b N l i hl w h)
  unfold tsv at HF ⊢
  generalize decide (i < l.length) = q at HF ⊢
  clear h hl
  go_enter Try.func32, Try.ntmps32
  go_wp2_with (first
    | (go_at_call 39; refine (all_any b _).mono ?_; rintro e w1 ⟨rfl, rfl⟩)
    | (go_at_call 56; refine HF.out.mono ?_; rintro e w1 ⟨rfl, rfl⟩))
  go_ret2
  exact ⟨rfl, rfl⟩

end Go.Proofs.Ytfidfhajnobonaa
