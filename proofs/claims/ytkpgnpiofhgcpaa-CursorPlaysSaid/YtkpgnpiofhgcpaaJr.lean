/- How many are taken at most. -/
import Derived.Test.YtkpgnpiofhgcpaaJa
namespace Go.Proofs.Ytkpgnpiofhgcpaa
namespace Cu

theorem many_len {α : Type} {one : Cu → α × Cu} (h1 : ∀ c : Cu, c.ok → To c (one c).2) (h2 : ∀ c : Cu, c.ok → c.e = 0 → (one c).2.e = 0 → c.at_ < (one c).2.at_) : ∀ (k : Nat) (c : Cu), c.ok →
    (many one k c).1.length + c.at_ ≤ (many one k c).2.at_ + 1 ∧ ((many one k c).2.e = 0 → (many one k c).1.length + c.at_ ≤ (many one k c).2.at_)
  | 0, c, _ => by simp [many]
  | k + 1, c, h => by
    by_cases h0 : c.e = 0
    · rw [many_next h0]
      have hto := h1 c h
      have hle := hto.le
      have hon := h2 c h h0
      have ih := many_len h1 h2 k (one c).2 hto.good
      simp only [List.length_cons]
      by_cases h3 : (one c).2.e = 0
      · have := hon h3
        omega
      · rw [many_stop h3] at ih ⊢
        simp only [List.length_nil]
        exact ⟨by omega, fun h4 => absurd h4 h3⟩
    · rw [many_stop h0]
      simp

theorem all_len {α : Type} {one : Cu → α × Cu} (h1 : ∀ c : Cu, c.ok → To c (one c).2) (h2 : ∀ c : Cu, c.ok → c.e = 0 → (one c).2.e = 0 → c.at_ < (one c).2.at_) {c : Cu} (h : c.ok) (most : Int) : (all one c most).1.length ≤ c.bs.length + 1 := by
  have hl := (many_len h1 h2 (c.cnt most).1 (c.cnt most).2 (cnt_to h most).good).1
  have ht := (all_to h1 h most).ok
  unfold all at *
  simp only at *
  split
  · omega
  · simp

theorem nums_len {c : Cu} (h : c.ok) (most : Int) : (c.nums most).1.length ≤ c.bs.length + 1 := all_len (fun _ h => num_to h) (fun _ h h0 h1 => tk_on h0 (fun h2 => (nuR_in h h2).1) h1) h most
theorem texts_len {c : Cu} (h : c.ok) (most each : Int) : (c.texts most each).1.length ≤ c.bs.length + 1 := all_len (fun _ h => text_to h each) (fun _ _ h0 h1 => tk_on h0 (fun h2 => (txR_in each h2).1) h1) h most

end Cu
end Go.Proofs.Ytkpgnpiofhgcpaa
