/- The mathematics of CursorBack: what is laid with how many it is ahead is taken as it was. -/
import Derived.Test.YtkpgnpiofhgcpaaJa
namespace Go.Proofs.Ytkpgnpiofhgcpaa

/-- Numbers' bytes, one behind the other. -/
def nbs : List Nat → List UInt8
  | [] => []
  | n :: l => vb n ++ nbs l

theorem nbs_append (a b : List Nat) : nbs (a ++ b) = nbs a ++ nbs b := by
  induction a with
  | nil => rfl
  | cons n a ih => simp [nbs, ih]
theorem nbs_succ {ns : List Nat} {i n : Nat} (h : ns[i]? = some n) : nbs (ns.take (i + 1)) = nbs (ns.take i) ++ vb n := by
  rw [List.take_add_one, h, nbs_append]
  simp [nbs]
theorem nbs_len : ∀ ns : List Nat, (∀ n ∈ ns, n < top) → (nbs ns).length ≤ 10 * ns.length
  | [], _ => by simp [nbs]
  | n :: l, h => by
    have h1 := nbs_len l (fun m hm => h m (by simp [hm]))
    have h2 := vb_len n (h n (by simp))
    simp [nbs]; omega

namespace Cu

theorem num_laid (pre tail : List UInt8) (n : Nat) (h : n < top) : num ⟨pre ++ (vb n ++ tail), pre.length, 0⟩ = (n, ⟨pre ++ (vb n ++ tail), (pre ++ vb n).length, 0⟩) := by
  have hg : gr 0 0 ((pre ++ (vb n ++ tail)).drop pre.length) = (n, (vb n).length, 0) := by rw [List.drop_left]; exact gr_laid0 tail n h
  simp only [num, tk, nuR, hg, gnext, if_true, List.length_append]

theorem many_nums : ∀ (ns : List Nat) (pre : List UInt8), (∀ n ∈ ns, n < top) → many num ns.length ⟨pre ++ nbs ns, pre.length, 0⟩ = (ns, ⟨pre ++ nbs ns, (pre ++ nbs ns).length, 0⟩)
  | [], pre, _ => by simp [many, nbs]
  | n :: l, pre, h => by
    have h1 := num_laid pre (nbs l) n (h n (by simp))
    have h2 := many_nums l (pre ++ vb n) (fun m hm => h m (by simp [hm]))
    rw [List.append_assoc] at h2
    rw [List.length_cons, many_next rfl]
    show ((num ⟨pre ++ (vb n ++ nbs l), pre.length, 0⟩).1 :: (many num l.length (num ⟨pre ++ (vb n ++ nbs l), pre.length, 0⟩).2).1, (many num l.length (num ⟨pre ++ (vb n ++ nbs l), pre.length, 0⟩).2).2) = _
    rw [h1, h2]
    rfl

theorem text_laid (pre tail t : List UInt8) (most : Int) (h : t.length < top) (hm : (t.length : Int) ≤ max most 0) : txt most ⟨pre ++ (blob t ++ tail), pre.length, 0⟩ = (t, ⟨pre ++ (blob t ++ tail), (pre ++ blob t).length, 0⟩) := by
  have hg := bg_laid most pre t tail h hm
  simp only [txt, text, tk, txR, hg, if_true, List.length_append]

theorem many_texts (most : Int) : ∀ (ts : List (List UInt8)) (pre : List UInt8), (∀ t ∈ ts, t.length < top ∧ (t.length : Int) ≤ max most 0) → many (txt most) ts.length ⟨pre ++ blobs ts, pre.length, 0⟩ = (ts, ⟨pre ++ blobs ts, (pre ++ blobs ts).length, 0⟩)
  | [], pre, _ => by simp [many, blobs]
  | t :: l, pre, h => by
    have h0 := h t (by simp)
    have h1 := text_laid pre (blobs l) t most h0.1 h0.2
    have h2 := many_texts most l (pre ++ blob t) (fun m hm => h m (by simp [hm]))
    rw [List.append_assoc] at h2
    rw [List.length_cons, many_next rfl]
    show ((txt most ⟨pre ++ (blob t ++ blobs l), pre.length, 0⟩).1 :: (many (txt most) l.length (txt most ⟨pre ++ (blob t ++ blobs l), pre.length, 0⟩).2).1, (many (txt most) l.length (txt most ⟨pre ++ (blob t ++ blobs l), pre.length, 0⟩).2).2) = _
    rw [h1, h2]
    rfl

theorem cnt_laid (k : Nat) (tail : List UInt8) (hk : k < 128) (most : Int) (hm : (k : Int) ≤ max most 0) : cnt ⟨UInt8.ofNat k :: tail, 0, 0⟩ most = (k, ⟨UInt8.ofNat k :: tail, 1, 0⟩) := by
  have h := num_laid [] tail k (by unfold top; omega)
  rw [vb_lt hk] at h
  have h2 : num ⟨UInt8.ofNat k :: tail, 0, 0⟩ = (k, ⟨UInt8.ofNat k :: tail, 1, 0⟩) := h
  rw [cnt, h2, if_neg (by simp only; omega)]

theorem nums_laid (ns : List Nat) (hl : ns.length ≤ 30) (h : ∀ n ∈ ns, n < top) : nums ⟨UInt8.ofNat ns.length :: nbs ns, 0, 0⟩ 30 = (ns, ⟨UInt8.ofNat ns.length :: nbs ns, (UInt8.ofNat ns.length :: nbs ns).length, 0⟩) := by
  have h1 := cnt_laid ns.length (nbs ns) (by omega) 30 (by omega)
  have h2 : many num ns.length ⟨UInt8.ofNat ns.length :: nbs ns, 1, 0⟩ = _ := many_nums ns [UInt8.ofNat ns.length] h
  rw [nums, all, h1]
  simp only
  rw [h2]
  rfl

theorem texts_laid (ts : List (List UInt8)) (hl : ts.length ≤ 30) (h : ∀ t ∈ ts, t.length ≤ 60) : texts ⟨UInt8.ofNat ts.length :: blobs ts, 0, 0⟩ 30 60 = (ts, ⟨UInt8.ofNat ts.length :: blobs ts, (UInt8.ofNat ts.length :: blobs ts).length, 0⟩) := by
  have h1 := cnt_laid ts.length (blobs ts) (by omega) 30 (by omega)
  have h2 : many (txt 60) ts.length ⟨UInt8.ofNat ts.length :: blobs ts, 1, 0⟩ = _ := many_texts 60 ts [UInt8.ofNat ts.length] (fun t ht => by have := h t ht; unfold top; omega)
  rw [texts, all, h1]
  simp only
  rw [h2]
  rfl

/-- At the end there is no number. -/
theorem nums_end (bs : List UInt8) (most : Int) : nums ⟨bs, bs.length, 0⟩ most = ([], ⟨bs, bs.length, 2⟩) := by
  have hn : num ⟨bs, bs.length, 0⟩ = (0, ⟨bs, bs.length, 2⟩) := by
    simp only [num, tk, nuR, List.drop_length, gr]
    rfl
  have hc : cnt ⟨bs, bs.length, 0⟩ most = (0, ⟨bs, bs.length, 2⟩) := by rw [cnt, hn, if_neg (by simp only; omega)]
  rw [nums, all, hc]
  rfl

end Cu

theorem new_zero (bs : List UInt8) : (if (0 : Int) < 0 ∨ (bs.length : Int) < 0 then (⟨bs, 0, 1⟩ : Cu) else ⟨bs, (0 : Int).toNat, 0⟩) = ⟨bs, 0, 0⟩ := by
  rw [if_neg (by omega)]
  rfl

end Go.Proofs.Ytkpgnpiofhgcpaa
