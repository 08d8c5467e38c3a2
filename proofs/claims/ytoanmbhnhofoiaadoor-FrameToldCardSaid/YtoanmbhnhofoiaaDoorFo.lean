/- The mathematics of FrameCuts and FrameTold. -/
import Derived.Test.YtoanmbhnhofoiaaDoorFn
namespace Go.Proofs.YtoanmbhnhofoiaaDoor

theorem told_take (n j : Nat) (l : List (List UInt8)) : told n (l.take j) = (told n l).take j := by
  induction l generalizing n j with
  | nil => simp [told]
  | cons p l ih =>
    cases j with
    | zero => rfl
    | succ j => rw [List.take_succ_cons, told, told, List.take_succ_cons, ih]

/-- Where the frame number i ends. -/
def fend (ps : List (List UInt8)) (i : Nat) : Nat := (frs (ps.take (i + 1))).length

theorem told_at {ps : List (List UInt8)} {i : Nat} {p : List UInt8} (h : ps[i]? = some p) : (told 0 ps)[i]? = some (p, fend ps i) := by
  have hi : i < ps.length := (List.getElem?_eq_some_iff.1 h).1
  have e : ps.take (i + 1) = ps.take i ++ [p] := by rw [List.take_add_one, h]; rfl
  have h1 : (told 0 (ps.take (i + 1)))[i]? = some (p, fend ps i) := by
    have hl : (told 0 (ps.take i)).length = i := by rw [told_len, List.length_take]; omega
    rw [e, told_snoc, List.getElem?_append_right (by omega), hl, Nat.sub_self, ← e, Nat.zero_add]
    rfl
  rw [told_take, List.getElem?_take] at h1
  rwa [if_pos (by omega)] at h1

theorem frs_mono (ps : List (List UInt8)) {i j : Nat} (h : i ≤ j) : (frs (ps.take i)).length ≤ (frs (ps.take j)).length := by
  have e : ps.take j = ps.take i ++ (ps.take j).drop i := by
    rw [show ps.take i = (ps.take j).take i by rw [List.take_take, Nat.min_eq_left h], List.take_append_drop]
  rw [e, frs_append, List.length_append]
  omega

/-- Where a row of frames is cut off: so many are whole. -/
theorem cut_at (ps : List (List UInt8)) (k : Nat) (h : ∀ q ∈ ps, pay q) (hk : k ≤ (frs ps).length) :
    ∃ j, j ≤ ps.length ∧ frun (k + 1) 0 ((frs ps).take k) = told 0 (ps.take j) ∧ (∀ i, i < j → fend ps i ≤ k) ∧ (∀ i, j ≤ i → i < ps.length → k < fend ps i) := by
  -- the greatest j whose frames lie ahead of k
  have hex : ∃ j, j ≤ ps.length ∧ (frs (ps.take j)).length ≤ k ∧ (∀ i, j ≤ i → i < ps.length → k < fend ps i) := by
    clear h hk
    have hz : ∀ n, n ≤ ps.length → (∃ j, j ≤ n ∧ (frs (ps.take j)).length ≤ k ∧ ∀ i, j ≤ i → i < n → k < fend ps i) := by
      intro n hn
      induction n with
      | zero => exact ⟨0, by omega, by simp [frs], fun i _ h => by omega⟩
      | succ n ih =>
        obtain ⟨j, h1, h2, h3⟩ := ih (by omega)
        by_cases hc : fend ps n ≤ k
        · exact ⟨n + 1, by omega, hc, fun i _ _ => by omega⟩
        · refine ⟨j, by omega, h2, fun i hi hin => ?_⟩
          by_cases hi2 : i < n
          · exact h3 i hi hi2
          · obtain rfl : i = n := by omega
            omega
    exact hz ps.length (Nat.le_refl _)
  obtain ⟨j, hj, h2, h3⟩ := hex
  refine ⟨j, hj, ?_, fun i hi => Nat.le_trans (frs_mono ps (by omega)) h2, h3⟩
  have hpay : ∀ q ∈ ps.take j, pay q := fun q hq => h q (List.mem_of_mem_take hq)
  have hjl : (ps.take j).length = j := by rw [List.length_take]; omega
  have hlen : ((frs ps).take k).length = k := by rw [List.length_take]; omega
  have hroom : frun (k + 1) 0 ((frs ps).take k) = frun (j + (k + 1)) 0 ((frs ps).take k) := by
    rw [Nat.add_comm j]
    exact (frun_room (k + 1) j 0 _ (by omega) (by omega)).symm
  rw [hroom]
  by_cases hall : j = ps.length
  · subst hall
    have e : ps.take ps.length = ps := List.take_length
    rw [e] at h2 ⊢
    have hkk : (frs ps).take k = frs ps := List.take_of_length_le h2
    rw [hkk]
    exact frun_all ps (k + 1) h
  · obtain ⟨p, hp⟩ : ∃ p, ps[j]? = some p := ⟨_, List.getElem?_eq_getElem (by omega)⟩
    have he := h3 j (Nat.le_refl _) (by omega)
    have hs := frs_succ hp
    unfold fend at he
    rw [hs, List.length_append] at he
    have hsplit : frs ps = (frs (ps.take j) ++ fr p) ++ frs (ps.drop (j + 1)) := by
      conv => lhs; rw [← List.take_append_drop (j + 1) ps]
      rw [frs_append, hs]
    have e : (frs ps).take k = frs (ps.take j) ++ (fr p).take (k - (frs (ps.take j)).length) := by
      rw [hsplit, List.append_assoc, List.take_append, List.take_of_length_le h2, List.take_append_of_le_length (by omega)]
    rw [e]
    have := frun_cut (ps.take j) p (k - (frs (ps.take j)).length) (k + 1) hpay (h p (List.mem_of_getElem? hp)) (by omega)
    rw [hjl] at this
    exact this

end Go.Proofs.YtoanmbhnhofoiaaDoor
