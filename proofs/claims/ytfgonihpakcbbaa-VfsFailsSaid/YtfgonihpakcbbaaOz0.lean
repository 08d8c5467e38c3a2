/- What is asked of a file system, behind so many acts. -/
import Derived.Test.YtfgonihpakcbbaaOy
namespace Go.Proofs.Ytfgonihpakcbbaa
open Go.RowKit

/-- What is left of an ask for the act behind n others, behind so many. -/
def askC (n cnt : Nat) : Bool × Int := if cnt ≤ n then (true, (n : Int) - (cnt : Int)) else (false, 0)
theorem askC_now (n cnt : Nat) : askNow (askC n cnt) = decide (cnt = n) := by
  unfold askNow askC
  by_cases h : cnt ≤ n
  · rw [if_pos h]
    by_cases e : cnt = n
    · simp [e]
    · have h9 : ¬ ((n : Int) - (cnt : Int) = 0) := by omega
      have h8 : ((n : Int) - (cnt : Int) == 0) = false := by rw [beq_eq_false_iff_ne]; exact h9
      simp only [h8, e, decide_false, Bool.and_false]
  · rw [if_neg h]
    have e : ¬ cnt = n := by omega
    simp [e]
theorem askC_left (n cnt : Nat) : askLeft (askC n cnt) = askC n (cnt + 1) := by
  unfold askLeft askC
  by_cases h : cnt ≤ n
  · rw [if_pos h, if_pos rfl]
    by_cases e : cnt = n
    · rw [if_pos (by simp only; omega), if_neg (by omega)]
    · rw [if_neg (by simp only; omega), if_pos (by omega)]
      simp only [Prod.mk.injEq, true_and]
      omega
  · rw [if_neg h, if_neg (by simp), if_neg (by omega)]
structure AskedB (falls : Bool) (n cnt : Nat) (σ : FsSt) : Prop where
  yes : falls = true → σ.f = (false, 0) ∧ σ.g = askC n cnt ∧ σ.down = decide (n < cnt)
  no : falls = false → σ.g = (false, 0) ∧ σ.f = askC n cnt ∧ σ.down = false
theorem asked_yes (n : Nat) : AskedB true n 0 ⟨fun _ => none, false, (false, 0), askOf (n : Int)⟩ := ⟨fun _ => ⟨rfl, by unfold askOf askC; simp, by simp⟩, fun h => by cases h⟩
theorem asked_no (n : Nat) : AskedB false n 0 ⟨fun _ => none, false, askOf (n : Int), (false, 0)⟩ := ⟨(fun h => by cases h), fun _ => ⟨rfl, by unfold askOf askC; simp, rfl⟩⟩
theorem ask_none : askLeft (false, 0) = (false, 0) ∧ askNow (false, 0) = false := ⟨rfl, rfl⟩
/-- An act among them. -/
theorem fails_step {falls : Bool} {n cnt : Nat} {σ σ' : FsSt} {a : Ac} {c : Int} (h : AskedB falls n cnt σ) (h0 : 0 ≤ a.kind) (h4 : a.kind ≤ 4) (hs : StepR σ a σ' c) :
    (σ' = σ ∧ ((σ.down = true ∧ c = 7) ∨ (σ.down = false ∧ (c = 6 ∨ c = 1)))) ∨
    (cnt ≠ n ∧ σ.down = false ∧ σ'.down = false ∧ c = 0 ∧ AskedB falls n (cnt + 1) σ') ∨
    (cnt = n ∧ falls = true ∧ σ.down = false ∧ σ'.down = true ∧ c = 7 ∧ AskedB falls n (cnt + 1) σ' ∧ (a.kind ≠ 0 → σ'.fl = σ.fl)) ∨
    (cnt = n ∧ falls = false ∧ σ.down = false ∧ σ'.down = false ∧ c = 8 ∧ AskedB falls n (cnt + 1) σ' ∧ σ'.fl = σ.fl) := by
  rcases hs.act h0 h4 with ⟨hr, rfl, rfl⟩ | ⟨hr, rfl, rfl⟩
  · left
    refine ⟨rfl, ?_⟩
    unfold refC at hr ⊢
    cases hd : σ'.down with
    | true => left; simp
    | false =>
      right
      refine ⟨rfl, ?_⟩
      rw [hd] at hr
      simp only [Bool.false_eq_true, if_false] at hr ⊢
      by_cases k0 : a.kind = 0
      · rw [if_pos k0] at hr; exact absurd rfl hr
      · rw [if_neg k0] at hr ⊢
        cases hf : σ'.fl a.name with
        | none => left; rfl
        | some x =>
          rw [hf] at hr
          simp only at hr ⊢
          split
          · right; rfl
          · rename_i h9; rw [if_neg h9] at hr; exact absurd rfl hr
  · right
    have hd : σ.down = false := by
      cases hd : σ.down with
      | false => rfl
      | true => unfold refC at hr; rw [hd, if_pos rfl] at hr; cases hr
    cases falls with
    | true =>
      obtain ⟨hf, hg, hdn⟩ := h.yes rfl
      have hlt : ¬ n < cnt := by rw [hd] at hdn; exact fun h9 => by rw [decide_eq_true h9] at hdn; cases hdn
      have hng : askNow σ.g = decide (cnt = n) := by rw [hg]; exact askC_now n cnt
      have hnf : askNow σ.f = false := by rw [hf]; rfl
      have hA : AskedB true n (cnt + 1) (actS σ a) := ⟨fun _ => ⟨by show askLeft σ.f = _; rw [hf]; rfl, by show askLeft σ.g = _; rw [hg]; exact askC_left n cnt, by show askNow σ.g = _; rw [hng]; exact decide_eq_decide.2 (by omega)⟩, fun h => by cases h⟩
      by_cases e : cnt = n
      · right; left
        have hg1 : askNow σ.g = true := by rw [hng]; exact decide_eq_true e
        refine ⟨e, rfl, hd, hg1, by unfold actCode; rw [if_pos hg1], hA, fun hk => ?_⟩
        show doneF (actRuns σ.f σ.g (decide (a.kind = 0))) _ _ = _
        have : actRuns σ.f σ.g (decide (a.kind = 0)) = false := by unfold actRuns; rw [if_pos hg1]; exact decide_eq_false hk
        rw [this]
        rfl
      · left
        have hg1 : askNow σ.g = false := by rw [hng]; exact decide_eq_false e
        exact ⟨e, hd, hg1, by unfold actCode; rw [hg1, hnf]; rfl, hA⟩
    | false =>
      obtain ⟨hg, hf, hdn⟩ := h.no rfl
      have hnf : askNow σ.f = decide (cnt = n) := by rw [hf]; exact askC_now n cnt
      have hng : askNow σ.g = false := by rw [hg]; rfl
      have hA : AskedB false n (cnt + 1) (actS σ a) := ⟨(fun h => by cases h), fun _ => ⟨by show askLeft σ.g = _; rw [hg]; rfl, by show askLeft σ.f = _; rw [hf]; exact askC_left n cnt, hng⟩⟩
      by_cases e : cnt = n
      · right; right
        have hf1 : askNow σ.f = true := by rw [hnf]; exact decide_eq_true e
        refine ⟨e, rfl, hd, hng, by unfold actCode; rw [hng, hf1]; rfl, hA, ?_⟩
        show doneF (actRuns σ.f σ.g (decide (a.kind = 0))) _ _ = _
        have : actRuns σ.f σ.g (decide (a.kind = 0)) = false := by unfold actRuns; rw [hng, hf1]; rfl
        rw [this]
        rfl
      · left
        have hf1 : askNow σ.f = false := by rw [hnf]; exact decide_eq_false e
        exact ⟨e, hd, hng, by unfold actCode; rw [hng, hf1]; rfl, hA⟩

end Go.Proofs.Ytfgonihpakcbbaa
