/- The plain mathematics of blobs: a text's bytes with how many they are ahead. No program is named here. -/
import Derived.Test.YtfdncdejjlcgpaaL
namespace Go.Proofs.Ytfdncdejjlcgpaa

/-- A text's blob. -/
def blob (t : List UInt8) : List UInt8 := vb t.length ++ t

/-- Texts' blobs, one behind the other. -/
def blobs : List (List UInt8) → List UInt8
  | [] => []
  | t :: l => blob t ++ blobs l

theorem blob_len (t : List UInt8) : (blob t).length = (vb t.length).length + t.length := by simp [blob]

theorem blobs_append (a b : List (List UInt8)) : blobs (a ++ b) = blobs a ++ blobs b := by
  induction a with
  | nil => rfl
  | cons n a ih => simp [blobs, ih]

theorem blobs_succ {ts : List (List UInt8)} {i : Nat} {x : List UInt8} (h : ts[i]? = some x) : blobs (ts.take (i + 1)) = blobs (ts.take i) ++ blob x := by
  obtain ⟨hlt, rfl⟩ := List.getElem?_eq_some_iff.1 h
  rw [List.take_succ_eq_append_getElem hlt, blobs_append]
  simp [blobs]

theorem blobs_split {ts : List (List UInt8)} {i : Nat} {x : List UInt8} (h : ts[i]? = some x) : blobs ts = blobs (ts.take i) ++ (blob x ++ blobs (ts.drop (i + 1))) := by
  obtain ⟨hlt, rfl⟩ := List.getElem?_eq_some_iff.1 h
  have h1 : blobs (ts.take i ++ ts.drop i) = blobs (ts.take i) ++ blobs (ts.drop i) := blobs_append _ _
  rw [List.take_append_drop] at h1
  rw [h1, List.drop_eq_getElem_cons hlt, blobs]

theorem blobs_len : ∀ (ts : List (List UInt8)) (m : Nat), m < top → (∀ t ∈ ts, t.length ≤ m) → (blobs ts).length ≤ (10 + m) * ts.length
  | [], _, _, _ => by simp [blobs]
  | t :: l, m, hm, h => by
    have h1 := h t (by simp)
    have h2 := vb_len t.length (by omega)
    have h3 := blobs_len l m hm (fun t' ht => h t' (by simp [ht]))
    simp only [blobs, List.length_append, blob_len, List.length_cons, Nat.mul_add]
    omega

theorem blobs_take_le {ts : List (List UInt8)} (i : Nat) : (blobs (ts.take i)).length ≤ (blobs ts).length := by
  have h1 : blobs (ts.take i ++ ts.drop i) = blobs (ts.take i) ++ blobs (ts.drop i) := blobs_append _ _
  rw [List.take_append_drop] at h1
  rw [h1]; simp

theorem blobs_one_le {ts : List (List UInt8)} {i : Nat} {x : List UInt8} (h : ts[i]? = some x) : (blobs (ts.take i)).length + (blob x).length ≤ (blobs ts).length := by
  rw [blobs_split h]; simp

/-- What is read as a text: its bytes, the place behind, the error. -/
def bg (most : Int) (at_ : Nat) (bs : List UInt8) : List UInt8 × Nat × Nat :=
  let r := gr 0 0 (bs.drop at_)
  if r.2.2 ≠ 0 then ([], 0, r.2.2)
  else if max most 0 < (r.1 : Int) then ([], 0, 5)
  else if bs.length - (at_ + r.2.1) < r.1 then ([], 0, 2)
  else ((bs.drop (at_ + r.2.1)).take r.1, at_ + r.2.1 + r.1, 0)

theorem bg_err {most : Int} {at_ n k e : Nat} {bs : List UInt8} (h : gr 0 0 (bs.drop at_) = (n, k, e)) (he : e ≠ 0) : bg most at_ bs = ([], 0, e) := by
  simp [bg, h, he]
theorem bg_limit {most : Int} {at_ n k : Nat} {bs : List UInt8} (h : gr 0 0 (bs.drop at_) = (n, k, 0)) (hl : max most 0 < (n : Int)) : bg most at_ bs = ([], 0, 5) := by
  simp only [bg, h, ne_eq, not_true_eq_false, if_false, if_pos hl]
theorem bg_short {most : Int} {at_ n k : Nat} {bs : List UInt8} (h : gr 0 0 (bs.drop at_) = (n, k, 0)) (hl : ¬ max most 0 < (n : Int)) (hs : bs.length - (at_ + k) < n) : bg most at_ bs = ([], 0, 2) := by
  simp only [bg, h, ne_eq, not_true_eq_false, if_false, if_neg hl, if_pos hs]
theorem bg_ok {most : Int} {at_ n k : Nat} {bs : List UInt8} (h : gr 0 0 (bs.drop at_) = (n, k, 0)) (hl : ¬ max most 0 < (n : Int)) (hs : ¬ bs.length - (at_ + k) < n) : bg most at_ bs = ((bs.drop (at_ + k)).take n, at_ + k + n, 0) := by
  simp only [bg, h, ne_eq, not_true_eq_false, if_false, if_neg hl, if_neg hs]

/-- What was laid is read, whatever stands ahead and behind. -/
theorem bg_laid (most : Int) (pre t tail : List UInt8) (ht : t.length < top) (hm : (t.length : Int) ≤ max most 0) : bg most pre.length (pre ++ (blob t ++ tail)) = (t, pre.length + (blob t).length, 0) := by
  have h0 : (pre ++ (blob t ++ tail)).drop pre.length = vb t.length ++ (t ++ tail) := by simp [blob]
  have h1 : gr 0 0 ((pre ++ (blob t ++ tail)).drop pre.length) = (t.length, (vb t.length).length, 0) := by rw [h0]; exact gr_laid0 _ _ ht
  rw [bg_ok h1 (by omega) (by simp [blob]; omega)]
  have h2 : (pre ++ (blob t ++ tail)).drop (pre.length + (vb t.length).length) = t ++ tail := by
    rw [← List.drop_drop, h0]; simp
  rw [h2, blob_len]
  simp [Nat.add_assoc]

/-- Cut off within, it is too short. -/
theorem bg_cut (most : Int) (pre t : List UInt8) (j : Nat) (ht : t.length < top) (hm : (t.length : Int) ≤ max most 0) (hj : j < (blob t).length) : bg most pre.length (pre ++ (blob t).take j) = ([], 0, 2) := by
  have h0 : (pre ++ (blob t).take j).drop pre.length = (blob t).take j := by simp
  rw [blob_len] at hj
  rcases Nat.lt_or_ge j (vb t.length).length with h | h
  · have h1 : gr 0 0 ((pre ++ (blob t).take j).drop pre.length) = (0, 0, 2) := by
      rw [h0, blob, List.take_append_of_le_length (by omega)]
      exact gr_cut0 _ _ ht h
    exact bg_err h1 (by decide)
  · have h1 : gr 0 0 ((pre ++ (blob t).take j).drop pre.length) = (t.length, (vb t.length).length, 0) := by
      rw [h0, blob, List.take_append, List.take_of_length_le (by omega)]
      exact gr_laid0 _ _ ht
    refine bg_short h1 (by omega) ?_
    have : ((blob t).take j).length = j := by rw [List.length_take, blob_len]; omega
    rw [List.length_append, this]
    omega

/-- What is read has just the bytes that were read. -/
theorem bg_one {most : Int} {at_ nx : Nat} {bs s : List UInt8} (h : bg most at_ bs = (s, nx, 0)) : at_ < nx ∧ nx ≤ bs.length ∧ blob s = (bs.drop at_).take (nx - at_) := by
  rcases hg : gr 0 0 (bs.drop at_) with ⟨n, k, e⟩
  by_cases he : e = 0
  · subst he
    by_cases hl : max most 0 < (n : Int)
    · rw [bg_limit hg hl] at h; simp at h
    · by_cases hs : bs.length - (at_ + k) < n
      · rw [bg_short hg hl hs] at h; simp at h
      · rw [bg_ok hg hl hs] at h
        obtain ⟨_, hk1, hk2, hv⟩ := gr_ok0 hg
        rw [List.length_drop] at hk2
        simp only [Prod.mk.injEq, and_true] at h
        obtain ⟨rfl, rfl⟩ := h
        refine ⟨by omega, by omega, ?_⟩
        have hlen : ((bs.drop (at_ + k)).take n).length = n := by rw [List.length_take, List.length_drop]; omega
        rw [blob, hlen, hv]
        have e1 : at_ + k + n - at_ = k + n := by omega
        rw [e1, List.take_add, List.drop_drop]
  · rw [bg_err hg he] at h
    simp only [Prod.mk.injEq] at h
    exact absurd h.2.2 he

theorem bg_five {most : Int} {at_ : Nat} {bs : List UInt8} : bg most at_ bs = ([], 0, 2) ∨ bg most at_ bs = ([], 0, 3) ∨ bg most at_ bs = ([], 0, 5) ∨ ∃ s nx, bg most at_ bs = (s, nx, 0) := by
  rcases gr_three (bs.drop at_) 0 0 with h | h | ⟨n, k, h⟩
  · exact .inl (bg_err h (by decide))
  · exact .inr (.inl (bg_err h (by decide)))
  · by_cases hl : max most 0 < (n : Int)
    · exact .inr (.inr (.inl (bg_limit h hl)))
    · by_cases hs : bs.length - (at_ + k) < n
      · exact .inl (bg_short h hl hs)
      · exact .inr (.inr (.inr ⟨_, _, bg_ok h hl hs⟩))

/-- Texts that are laid one behind the other, and cut off: each that is whole is there. -/
theorem blobs_in {most : Int} {pre : List UInt8} {ts : List (List UInt8)} {i en : Nat} {x : List UInt8} (h : ts[i]? = some x) (hx : x.length < top) (hm : (x.length : Int) ≤ max most 0)
    (hen : (pre ++ blobs (ts.take i)).length + (blob x).length ≤ en) : bg most (pre ++ blobs (ts.take i)).length ((pre ++ blobs ts).take en) = (x, (pre ++ blobs (ts.take i)).length + (blob x).length, 0) := by
  have e0 : pre ++ blobs ts = (pre ++ blobs (ts.take i)) ++ (blob x ++ blobs (ts.drop (i + 1))) := by rw [blobs_split h, List.append_assoc]
  rw [e0]
  generalize pre ++ blobs (ts.take i) = q at hen ⊢
  have e1 : (q ++ (blob x ++ blobs (ts.drop (i + 1)))).take en = q ++ (blob x ++ (blobs (ts.drop (i + 1))).take (en - q.length - (blob x).length)) := by
    rw [List.take_append, List.take_of_length_le (by omega), List.take_append, List.take_of_length_le (l := blob x) (by omega)]
  rw [e1]
  exact bg_laid most q x _ hx hm

theorem blobs_out {most : Int} {pre : List UInt8} {ts : List (List UInt8)} {i en : Nat} {x : List UInt8} (h : ts[i]? = some x) (hx : x.length < top) (hm : (x.length : Int) ≤ max most 0)
    (h1 : (pre ++ blobs (ts.take i)).length ≤ en) (h2 : en < (pre ++ blobs (ts.take i)).length + (blob x).length) : bg most (pre ++ blobs (ts.take i)).length ((pre ++ blobs ts).take en) = ([], 0, 2) := by
  have e0 : pre ++ blobs ts = (pre ++ blobs (ts.take i)) ++ (blob x ++ blobs (ts.drop (i + 1))) := by rw [blobs_split h, List.append_assoc]
  rw [e0]
  generalize pre ++ blobs (ts.take i) = q at h1 h2 ⊢
  have e1 : (q ++ (blob x ++ blobs (ts.drop (i + 1)))).take en = q ++ (blob x).take (en - q.length) := by
    rw [List.take_append, List.take_of_length_le (by omega), List.take_append_of_le_length (by omega)]
  rw [e1]
  exact bg_cut most q x _ hx hm (by omega)

/-- Unlike lists have unlike blobs. -/
theorem blobs_inj : ∀ (a b : List (List UInt8)), (∀ t ∈ a, t.length < top) → (∀ t ∈ b, t.length < top) → blobs a = blobs b → a = b
  | [], [], _, _, _ => rfl
  | [], t :: b, _, _, h => by
    have := congrArg List.length h
    have h0 := vb_pos t.length
    simp only [blobs, blob, List.length_append, List.length_nil] at this
    omega
  | t :: a, [], _, _, h => by
    have := congrArg List.length h
    have h0 := vb_pos t.length
    simp only [blobs, blob, List.length_append, List.length_nil] at this
    omega
  | t :: a, u :: b, ha, hb, h => by
    have hgt : gr 0 0 (blob t ++ blobs a) = (t.length, (vb t.length).length, 0) := by
      rw [blob, List.append_assoc]; exact gr_laid0 _ _ (ha t (by simp))
    have hgu : gr 0 0 (blob u ++ blobs b) = (u.length, (vb u.length).length, 0) := by
      rw [blob, List.append_assoc]; exact gr_laid0 _ _ (hb u (by simp))
    have h' : blob t ++ blobs a = blob u ++ blobs b := h
    rw [h', hgu] at hgt
    simp only [Prod.mk.injEq, and_true] at hgt
    have hl : (blob t).length = (blob u).length := by rw [blob_len, blob_len]; omega
    obtain ⟨e1, e2⟩ := List.append_inj h' hl
    have hl2 : (vb t.length).length = (vb u.length).length := by omega
    have e3 := (List.append_inj e1 hl2).2
    rw [e3, blobs_inj a b (fun x hx => ha x (by simp [hx])) (fun x hx => hb x (by simp [hx])) e2]

end Go.Proofs.Ytfdncdejjlcgpaa
