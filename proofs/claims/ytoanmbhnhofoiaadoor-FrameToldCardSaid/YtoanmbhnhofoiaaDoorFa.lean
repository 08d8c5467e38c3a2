/- The mathematics of frames: a payload's blob with its sum behind; laid one behind the other, cut off, turned. No program is named here. -/
import Derived.Test.YtoanmbhnhofoiaaDoorBa
import Derived.Test.YtoanmbhnhofoiaaDoorCn
namespace Go.Proofs.YtoanmbhnhofoiaaDoor

/-- A payload's frame. -/
def fr (p : List UInt8) : List UInt8 := blob p ++ lb (crc (blob p))
/-- Frames, one behind the other. -/
def frs : List (List UInt8) → List UInt8
  | [] => []
  | p :: l => fr p ++ frs l

theorem fr_len (p : List UInt8) : (fr p).length = (blob p).length + 4 := by simp [fr, lb_len]
theorem frs_append (a b : List (List UInt8)) : frs (a ++ b) = frs a ++ frs b := by
  induction a with
  | nil => rfl
  | cons p a ih => simp [frs, ih]
theorem frs_succ {ps : List (List UInt8)} {i : Nat} {p : List UInt8} (h : ps[i]? = some p) : frs (ps.take (i + 1)) = frs (ps.take i) ++ fr p := by
  rw [List.take_add_one, h, frs_append]
  simp [frs]

/-- It is a payload. -/
def pay (p : List UInt8) : Prop := 1 ≤ p.length ∧ p.length ≤ 2048

/-- What stands at a place: the payload, the place behind, the error's number. -/
def fg (at_ : Nat) (bs : List UInt8) : List UInt8 × Nat × Nat :=
  if at_ = bs.length then ([], 0, 6)
  else if (bg 2048 at_ bs).2.2 ≠ 0 then ([], 0, (bg 2048 at_ bs).2.2)
  else if (bg 2048 at_ bs).1 = [] then ([], 0, 3)
  else if bs.length < (bg 2048 at_ bs).2.1 + 4 then ([], 0, 2)
  else if lb (crc ((bs.drop at_).take ((bg 2048 at_ bs).2.1 - at_))) ≠ (bs.drop (bg 2048 at_ bs).2.1).take 4 then ([], 0, 4)
  else ((bg 2048 at_ bs).1, (bg 2048 at_ bs).2.1 + 4, 0)

theorem fg_end (bs : List UInt8) : fg bs.length bs = ([], 0, 6) := by rw [fg, if_pos rfl]
theorem fg_err {at_ e : Nat} {bs : List UInt8} (h0 : at_ ≠ bs.length) (h : bg 2048 at_ bs = ([], 0, e)) (he : e ≠ 0) : fg at_ bs = ([], 0, e) := by
  rw [fg, if_neg h0, h, if_pos he]
theorem fg_form {at_ nx : Nat} {bs : List UInt8} (h0 : at_ ≠ bs.length) (h : bg 2048 at_ bs = ([], nx, 0)) : fg at_ bs = ([], 0, 3) := by
  rw [fg, if_neg h0, h, if_neg (by simp), if_pos rfl]
theorem fg_short {at_ nx : Nat} {p bs : List UInt8} (h0 : at_ ≠ bs.length) (h : bg 2048 at_ bs = (p, nx, 0)) (hp : p ≠ []) (hs : bs.length < nx + 4) : fg at_ bs = ([], 0, 2) := by
  rw [fg, if_neg h0, h, if_neg (by simp), if_neg hp, if_pos hs]
theorem fg_sum {at_ nx : Nat} {p bs : List UInt8} (h0 : at_ ≠ bs.length) (h : bg 2048 at_ bs = (p, nx, 0)) (hp : p ≠ []) (hs : ¬ bs.length < nx + 4) (hc : lb (crc ((bs.drop at_).take (nx - at_))) ≠ (bs.drop nx).take 4) : fg at_ bs = ([], 0, 4) := by
  rw [fg, if_neg h0, h, if_neg (by simp), if_neg hp, if_neg hs, if_pos hc]
theorem fg_go {at_ nx : Nat} {p bs : List UInt8} (h0 : at_ ≠ bs.length) (h : bg 2048 at_ bs = (p, nx, 0)) (hp : p ≠ []) (hs : ¬ bs.length < nx + 4) (hc : lb (crc ((bs.drop at_).take (nx - at_))) = (bs.drop nx).take 4) : fg at_ bs = (p, nx + 4, 0) := by
  rw [fg, if_neg h0, h, if_neg (by simp), if_neg hp, if_neg hs, if_neg (by simpa using hc)]

theorem bg_most {at_ nx : Nat} {p bs : List UInt8} (h : bg 2048 at_ bs = (p, nx, 0)) : p.length ≤ 2048 := by
  rcases gr_three (bs.drop at_) 0 0 with hg | hg | ⟨n, k, hg⟩
  · rw [bg_err hg (by omega)] at h; simp at h
  · rw [bg_err hg (by omega)] at h; simp at h
  · by_cases hl : max (2048 : Int) 0 < (n : Int)
    · rw [bg_limit hg hl] at h; simp at h
    · by_cases hs : bs.length - (at_ + k) < n
      · rw [bg_short hg hl hs] at h; simp at h
      · rw [bg_ok hg hl hs] at h
        simp only [Prod.mk.injEq, and_true] at h
        rw [← h.1, List.length_take]
        omega

/-- What is read is just what stands there. -/
theorem fg_ok {at_ nx : Nat} {p bs : List UInt8} (h : fg at_ bs = (p, nx, 0)) : at_ < nx ∧ nx ≤ bs.length ∧ pay p ∧ fr p = (bs.drop at_).take (nx - at_) := by
  by_cases h0 : at_ = bs.length
  · rw [h0, fg_end] at h
    simp at h
  rcases bg_five (most := 2048) (at_ := at_) (bs := bs) with hg | hg | hg | ⟨s, k, hg⟩
  · rw [fg_err h0 hg (by omega)] at h; simp at h
  · rw [fg_err h0 hg (by omega)] at h; simp at h
  · rw [fg_err h0 hg (by omega)] at h; simp at h
  · by_cases hp : s = []
    · subst hp
      rw [fg_form h0 hg] at h; simp at h
    · by_cases hs : bs.length < k + 4
      · rw [fg_short h0 hg hp hs] at h; simp at h
      · by_cases hc : lb (crc ((bs.drop at_).take (k - at_))) = (bs.drop k).take 4
        · rw [fg_go h0 hg hp hs hc] at h
          simp only [Prod.mk.injEq, and_true] at h
          obtain ⟨rfl, rfl⟩ := h
          obtain ⟨h1, h2, h3⟩ := bg_one hg
          refine ⟨by omega, by omega, ⟨?_, ?_⟩, ?_⟩
          · rcases Nat.eq_zero_or_pos s.length with h4 | h4
            · exact absurd (List.eq_nil_of_length_eq_zero h4) hp
            · exact h4
          · exact bg_most hg
          · rw [fr, h3, hc, show k + 4 - at_ = (k - at_) + 4 by omega, List.take_add, List.drop_drop, show at_ + (k - at_) = k by omega]
        · rw [fg_sum h0 hg hp hs hc] at h; simp at h

theorem pay_ne {p : List UInt8} (h : pay p) : p ≠ [] := fun e => by rw [e] at h; exact absurd h.1 (by simp)
theorem pay_top {p : List UInt8} (h : pay p) : p.length < top ∧ (p.length : Int) ≤ max 2048 0 := by
  have := h.2
  unfold top
  omega

theorem fr_pos (p : List UInt8) : 0 < (fr p).length := by rw [fr_len]; omega

/-- What was laid is there. -/
theorem fg_laid (pre tail p : List UInt8) (h : pay p) : fg pre.length (pre ++ (fr p ++ tail)) = (p, (pre ++ fr p).length, 0) := by
  have hb := bg_laid 2048 pre p (lb (crc (blob p)) ++ tail) (pay_top h).1 (pay_top h).2
  have e : pre ++ (fr p ++ tail) = pre ++ (blob p ++ (lb (crc (blob p)) ++ tail)) := by simp [fr]
  have h1 : pre.length ≠ (pre ++ (blob p ++ (lb (crc (blob p)) ++ tail))).length := by simp [lb_len]
  have h2 : ¬ (pre ++ (blob p ++ (lb (crc (blob p)) ++ tail))).length < pre.length + (blob p).length + 4 := by simp [lb_len]; omega
  have h3 : lb (crc (((pre ++ (blob p ++ (lb (crc (blob p)) ++ tail))).drop pre.length).take (pre.length + (blob p).length - pre.length))) = ((pre ++ (blob p ++ (lb (crc (blob p)) ++ tail))).drop (pre.length + (blob p).length)).take 4 := by
    have e2 : (pre ++ (blob p ++ (lb (crc (blob p)) ++ tail))).drop (pre.length + (blob p).length) = lb (crc (blob p)) ++ tail := by
      rw [← List.drop_drop, List.drop_left, List.drop_left]
    rw [e2, List.drop_left, show pre.length + (blob p).length - pre.length = (blob p).length by omega, List.take_left]
    exact (List.take_left (l₁ := lb (crc (blob p))) (l₂ := tail)).symm
  rw [e, fg_go h1 hb (pay_ne h) h2 h3, List.length_append, fr_len, Nat.add_assoc]

/-- Cut off within a frame there is none. -/
theorem fg_cut (pre p : List UInt8) (j : Nat) (h : pay p) (hj : j < (fr p).length) : (fg pre.length (pre ++ (fr p).take j)).2.2 ≠ 0 := by
  by_cases h0 : j = 0
  · subst h0
    have : fg pre.length (pre ++ (fr p).take 0) = ([], 0, 6) := by
      rw [List.take_zero, List.append_nil]; exact fg_end pre
    rw [this]; simp
  have hne : pre.length ≠ (pre ++ (fr p).take j).length := by
    rw [List.length_append, List.length_take]; omega
  by_cases hb : j < (blob p).length
  · have e : (fr p).take j = (blob p).take j := by rw [fr, List.take_append_of_le_length (by omega)]
    rw [e] at hne ⊢
    rw [fg_err hne (bg_cut 2048 pre p j (pay_top h).1 (pay_top h).2 hb) (by omega)]
    simp
  · have e : (fr p).take j = blob p ++ (lb (crc (blob p))).take (j - (blob p).length) := by
      rw [fr, List.take_append, List.take_of_length_le (by omega)]
    rw [e] at hne ⊢
    have hg := bg_laid 2048 pre p ((lb (crc (blob p))).take (j - (blob p).length)) (pay_top h).1 (pay_top h).2
    rw [fg_short hne hg (pay_ne h) (by
      rw [fr_len] at hj
      simp only [List.length_append, List.length_take, lb_len]
      omega)]
    simp

/-- The payloads from a place on, and the places behind them; k: no more than so many. -/
def frun : Nat → Nat → List UInt8 → List (List UInt8 × Nat)
  | 0, _, _ => []
  | k + 1, at_, bs => if (fg at_ bs).2.2 = 0 then ((fg at_ bs).1, (fg at_ bs).2.1) :: frun k (fg at_ bs).2.1 bs else []

/-- What is told of frames, one behind the other, the first one at a place. -/
def told (n : Nat) : List (List UInt8) → List (List UInt8 × Nat)
  | [] => []
  | p :: l => (p, n + (fr p).length) :: told (n + (fr p).length) l

theorem told_len (n : Nat) (ps : List (List UInt8)) : (told n ps).length = ps.length := by
  induction ps generalizing n with
  | nil => rfl
  | cons p l ih => simp [told, ih]

/-- Whole frames ahead are told; then it goes on behind them. -/
theorem frun_laid : ∀ (ps : List (List UInt8)) (pre tail : List UInt8) (k : Nat), (∀ p ∈ ps, pay p) → frun (ps.length + k) pre.length (pre ++ (frs ps ++ tail)) = told pre.length ps ++ frun k (pre ++ frs ps).length (pre ++ (frs ps ++ tail))
  | [], pre, tail, k, _ => by simp [frs, told]
  | p :: l, pre, tail, k, h => by
    have h1 := fg_laid pre (frs l ++ tail) p (h p (by simp))
    have e : pre ++ (frs (p :: l) ++ tail) = pre ++ (fr p ++ (frs l ++ tail)) := by simp [frs]
    have e2 : pre ++ (fr p ++ (frs l ++ tail)) = (pre ++ fr p) ++ (frs l ++ tail) := by simp
    have h2 := frun_laid l (pre ++ fr p) tail k (fun q hq => h q (by simp [hq]))
    rw [e, show (p :: l).length + k = (l.length + k) + 1 by simp; omega, frun, h1, if_pos rfl]
    simp only
    rw [e2, h2, told, List.length_append]
    simp [frs]

theorem frun_stop {k at_ : Nat} {bs : List UInt8} (h : (fg at_ bs).2.2 ≠ 0) : frun k at_ bs = [] := by
  cases k with
  | zero => rfl
  | succ k => rw [frun, if_neg h]

/-- Of frames that are cut off within the next one just those ahead are told. -/
theorem frun_cut (ps : List (List UInt8)) (p : List UInt8) (j k : Nat) (h : ∀ q ∈ ps, pay q) (hp : pay p) (hj : j < (fr p).length) :
    frun (ps.length + k) 0 (frs ps ++ (fr p).take j) = told 0 ps := by
  have h1 := frun_laid ps [] ((fr p).take j) k h
  simp only [List.length_nil, List.nil_append] at h1
  rw [h1, frun_stop (fg_cut (frs ps) p j hp hj), List.append_nil]

/-- And all of them, if there is no more. -/
theorem frun_all (ps : List (List UInt8)) (k : Nat) (h : ∀ q ∈ ps, pay q) : frun (ps.length + k) 0 (frs ps) = told 0 ps := by
  have h1 := frun_laid ps [] [] k h
  simp only [List.length_nil, List.nil_append, List.append_nil] at h1
  rw [h1, frun_stop (by rw [fg_end]; simp), List.append_nil]

/-- A frame in which bits within 32 in a row are turned, behind its length: the next one that is told isn't there. -/
theorem fg_turned (pre tail p c : List UInt8) (first m : Nat) (hp : pay p) (h : Turned (fr p) c first 32 m) (hm : m ≠ 0) (hlen : c.take (vb p.length).length = vb p.length) :
    (fg pre.length (pre ++ (c ++ tail))).2.2 ≠ 0 := by
  have hcl : c.length = (blob p).length + 4 := by rw [h.1, fr_len]
  have hbl := blob_len p
  obtain ⟨q, hq⟩ : ∃ q, q = (c.drop (vb p.length).length).take p.length := ⟨_, rfl⟩
  have hql : q.length = p.length := by rw [hq, List.length_take, List.length_drop]; omega
  have hc : c = blob q ++ c.drop (blob p).length := by
    have e1 : blob q = c.take (blob p).length := by
      rw [blob, hql, hq, hbl, List.take_add, hlen]
    rw [e1, List.take_append_drop]
  have hbq : (blob q).length = (blob p).length := by rw [blob_len, hql, ← hbl]
  have hg := bg_laid 2048 pre q (c.drop (blob p).length ++ tail) (by rw [hql]; exact (pay_top hp).1) (by rw [hql]; exact (pay_top hp).2)
  have e : pre ++ (c ++ tail) = pre ++ (blob q ++ (c.drop (blob p).length ++ tail)) := by
    rw [← List.append_assoc (blob q), ← hc]
  have ht := h.told (m0 := blob p) (t0 := lb (crc (blob p))) rfl (lb_len _) (le4_lb _) rfl
  rw [e, fg_sum ?_ hg ?_ ?_ ?_]
  · simp
  · have := vb_pos p.length
    rw [List.length_append, List.length_append, hbq]; omega
  · intro e0; rw [e0] at hql; have := hp.1; simp at hql; omega
  · simp only [List.length_append, List.length_drop, hbq]; omega
  · rw [List.drop_left, show pre.length + (blob q).length - pre.length = (blob q).length by omega, List.take_left]
    have e2 : (pre ++ (blob q ++ (c.drop (blob p).length ++ tail))).drop (pre.length + (blob q).length) = c.drop (blob p).length ++ tail := by
      rw [← List.drop_drop, List.drop_left, List.drop_left]
    have h4 : (c.drop (blob p).length).length = 4 := by rw [List.length_drop]; omega
    rw [e2, List.take_append_of_le_length (by omega), List.take_of_length_le (by omega)]
    intro e3
    have e4 : crc (blob q) = le4 (c.drop (blob p).length) := by rw [← e3, le4_lb]
    have e5 : blob q = c.take (blob p).length := by rw [hc, List.take_append_of_le_length (by omega), List.take_of_length_le (by omega)]
    exact hm (ht.1 (by rw [← e5, e4]))

theorem frun_turned (ps : List (List UInt8)) (tail p c : List UInt8) (first m k : Nat) (h : ∀ q ∈ ps, pay q) (hp : pay p) (ht : Turned (fr p) c first 32 m) (hm : m ≠ 0) (hlen : c.take (vb p.length).length = vb p.length) :
    frun (ps.length + k) 0 (frs ps ++ (c ++ tail)) = told 0 ps := by
  have h1 := frun_laid ps [] (c ++ tail) k h
  simp only [List.length_nil, List.nil_append] at h1
  rw [h1, frun_stop (fg_turned (frs ps) tail p c first m hp ht hm hlen), List.append_nil]

/-- Each one that is told takes room: no more are asked for than there are bytes. -/
theorem frun_room : ∀ (k j at_ : Nat) (bs : List UInt8), at_ ≤ bs.length → bs.length - at_ < k → frun (k + j) at_ bs = frun k at_ bs
  | 0, _, _, _, _, h => by omega
  | k + 1, j, at_, bs, hat, h => by
    rw [show k + 1 + j = (k + j) + 1 by omega, frun, frun]
    by_cases h0 : (fg at_ bs).2.2 = 0
    · obtain ⟨p, nx, hg⟩ : ∃ p nx, fg at_ bs = (p, nx, 0) := ⟨_, _, by rw [← h0]⟩
      obtain ⟨h1, h2, _, _⟩ := fg_ok hg
      rw [if_pos h0, if_pos h0, hg]
      simp only
      rw [frun_room k j nx bs h2 (by omega)]
    · rw [if_neg h0, if_neg h0]

end Go.Proofs.YtoanmbhnhofoiaaDoor
