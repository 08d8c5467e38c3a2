/- What holds of a file system behind so many acts. -/
import Derived.Test.YtfgonihpakcbbaaOu
namespace Go.Proofs.Ytfgonihpakcbbaa
open Go.RowKit

/-- An act that is not too great. -/
def ASm (a : Ac) : Prop := a.body.length ≤ 300 ∧ a.name.length ≤ 100 ∧ a.to.length ≤ 100 ∧ a.keep.length ≤ 40
/-- Behind so many acts. -/
structure Good (σ : FsSt) (i : Nat) : Prop where
  few : ∃ L : List (List UInt8), L.length ≤ i ∧ ∀ u, (σ.fl u).isSome = true → u ∈ L
  each : ∀ u y, σ.fl u = some y → y.body.length ≤ 300 * i ∧ y.safe ≤ y.body.length ∧ u.length ≤ 100
  hf : AskIn σ.f
  hg : AskIn σ.g
theorem good_start : Good ⟨fun _ => none, false, (false, 0), (false, 0)⟩ 0 := ⟨⟨[], by simp, by simp⟩, by simp, by simp [AskIn], by simp [AskIn]⟩
theorem Good.names {σ : FsSt} {i : Nat} (h : Good σ i) : ∀ ns, IsNames σ.fl ns → ns.length ≤ i := fun ns hn => by
  obtain ⟨L, hl, hm⟩ := h.few
  have hnd : ns.Nodup := hn.1.imp fun {a b} hab e => by rw [e] at hab; exact List.lt_irrefl b hab
  exact Nat.le_trans (List.Nodup.length_le_of_subset hnd (fun u hu => hm u ((hn.2 u).1 hu))) hl
theorem Good.more {σ : FsSt} {i : Nat} (h : Good σ i) : Good σ (i + 1) := by
  obtain ⟨L, hl, hm⟩ := h.few
  exact ⟨⟨L, by omega, hm⟩, fun u y hu => by have := h.each u y hu; omega, h.hf, h.hg⟩
theorem askOf_in {n : Int} (h : n ≤ 9223372036854775807) : AskIn (askOf n) := by
  unfold AskIn askOf
  simp
  omega
/-- Names are neither made nor lost by a crash. -/
theorem crN_names : ∀ (ns : List (List UInt8)) (st : (List UInt8 → Option Fl) × List Int) (u : List UInt8), ((crN ns st).1 u).isSome = (st.1 u).isSome
  | [], _, _ => rfl
  | s :: ns, st, u => by
    show ((match st.1 s with | none => crN ns st | some x => crN ns (flput st.1 s (some (crOne x st.2).1), (crOne x st.2).2)).1 u).isSome = _
    cases e : st.1 s with
    | none => exact crN_names ns st u
    | some x =>
      rw [crN_names ns _ u]
      unfold flput
      simp only
      by_cases hu : u = s
      · subst hu; rw [if_pos rfl, e]; rfl
      · rw [if_neg hu]
theorem names_nodup {fl : List UInt8 → Option Fl} {ns : List (List UInt8)} (h : IsNames fl ns) : ns.Nodup := h.1.imp fun {a b} hab e => by rw [e] at hab; exact List.lt_irrefl b hab
/-- Each file behind a crash: a first part, all of it safe. -/
theorem crash_each {fl : List UInt8 → Option Fl} {ns : List (List UInt8)} {ks : List Int} (hn : IsNames fl ns) (hs : ∀ u y, fl u = some y → y.safe ≤ y.body.length) (u : List UInt8) :
    (fl u = none ∧ (crN ns (fl, ks)).1 u = none) ∨ ∃ y m, fl u = some y ∧ y.safe ≤ m ∧ m ≤ y.body.length ∧ (crN ns (fl, ks)).1 u = some ⟨y.body.take m, m⟩ := by
  cases e : fl u with
  | none =>
    left
    refine ⟨rfl, ?_⟩
    have : ((crN ns (fl, ks)).1 u).isSome = (fl u).isSome := crN_names ns (fl, ks) u
    rw [e] at this
    cases e2 : (crN ns (fl, ks)).1 u with
    | none => rfl
    | some x => rw [e2] at this; cases this
  | some y =>
    right
    obtain ⟨m, h1, h2, h3⟩ := crN_part ns (fl, ks) (names_nodup hn) u ((hn.2 u).2 (by rw [e]; rfl)) y e (hs u y e)
    exact ⟨y, m, rfl, h1, h2, h3⟩
theorem good_get {σ : FsSt} {i : Nat} (h : Good σ i) (s : List UInt8) : (flGet σ.fl s).body.length ≤ 300 * i ∧ (flGet σ.fl s).safe ≤ (flGet σ.fl s).body.length := by
  unfold flGet
  cases e : σ.fl s with
  | none => simp
  | some y => exact ⟨(h.each s y e).1, (h.each s y e).2.1⟩
theorem put_each {fl : List UInt8 → Option Fl} {s : List UInt8} {x : Fl} {m : Nat} (h : ∀ u y, fl u = some y → y.body.length ≤ m ∧ y.safe ≤ y.body.length ∧ u.length ≤ 100) (h1 : x.body.length ≤ m) (h2 : x.safe ≤ x.body.length) (h3 : s.length ≤ 100) :
    ∀ u y, flput fl s (some x) u = some y → y.body.length ≤ m ∧ y.safe ≤ y.body.length ∧ u.length ≤ 100 := fun u y hy => by
  unfold flput at hy
  by_cases e : u = s
  · rw [if_pos e] at hy; obtain rfl := Option.some.inj hy; rw [e]; exact ⟨h1, h2, h3⟩
  · rw [if_neg e] at hy; exact h u y hy
theorem del_each {fl : List UInt8 → Option Fl} {s : List UInt8} {m : Nat} (h : ∀ u y, fl u = some y → y.body.length ≤ m ∧ y.safe ≤ y.body.length ∧ u.length ≤ 100) :
    ∀ u y, flput fl s none u = some y → y.body.length ≤ m ∧ y.safe ≤ y.body.length ∧ u.length ≤ 100 := fun u y hy => by
  unfold flput at hy
  by_cases e : u = s
  · rw [if_pos e] at hy; cases hy
  · rw [if_neg e] at hy; exact h u y hy
theorem put_few {fl : List UInt8 → Option Fl} {s : List UInt8} {x : Option Fl} {L : List (List UInt8)} (h : ∀ u, (fl u).isSome = true → u ∈ L) : ∀ u, (flput fl s x u).isSome = true → u ∈ s :: L := fun u hu => by
  unfold flput at hu
  by_cases e : u = s
  · simp [e]
  · rw [if_neg e] at hu; exact List.mem_cons_of_mem _ (h u hu)
theorem del_few {fl : List UInt8 → Option Fl} {s : List UInt8} {L : List (List UInt8)} (h : ∀ u, (fl u).isSome = true → u ∈ L) : ∀ u, (flput fl s none u).isSome = true → u ∈ L := fun u hu => by
  unfold flput at hu
  by_cases e : u = s
  · rw [if_pos e] at hu; cases hu
  · rw [if_neg e] at hu; exact h u hu
theorem good_new {σ : FsSt} {i : Nat} {a : Ac} (h : Good σ i) (ha : ASm a) :
    (∃ L : List (List UInt8), L.length ≤ i + 1 ∧ ∀ u, (newFl σ a u).isSome = true → u ∈ L) ∧ ∀ u y, newFl σ a u = some y → y.body.length ≤ 300 * (i + 1) ∧ y.safe ≤ y.body.length ∧ u.length ≤ 100 := by
  obtain ⟨h1, h2, h3, _⟩ := ha
  obtain ⟨L, hl, hm⟩ := h.few
  obtain ⟨g1, g2⟩ := good_get h a.name
  have he : ∀ u y, σ.fl u = some y → y.body.length ≤ 300 * (i + 1) ∧ y.safe ≤ y.body.length ∧ u.length ≤ 100 := fun u y hu => by have := h.each u y hu; omega
  unfold newFl
  by_cases k0 : a.kind = 0
  · rw [if_pos k0]
    exact ⟨⟨a.name :: L, by simp; omega, put_few hm⟩, put_each he (by simp only [List.length_append]; omega) (by simp only [List.length_append]; omega) h2⟩
  rw [if_neg k0]
  by_cases k1 : a.kind = 1
  · rw [if_pos k1]
    exact ⟨⟨a.name :: L, by simp; omega, put_few hm⟩, put_each he (by simp only [List.length_take]; omega) (by simp only [List.length_take]; omega) h2⟩
  rw [if_neg k1]
  by_cases k2 : a.kind = 2
  · rw [if_pos k2]
    exact ⟨⟨a.name :: L, by simp; omega, put_few hm⟩, put_each he (by simp only; omega) (Nat.le_refl _) h2⟩
  rw [if_neg k2]
  by_cases k3 : a.kind = 3
  · rw [if_pos k3]
    exact ⟨⟨a.to :: L, by simp; omega, put_few (del_few hm)⟩, put_each (del_each he) (by omega) g2 h3⟩
  rw [if_neg k3]
  exact ⟨⟨L, by omega, del_few hm⟩, del_each he⟩
theorem good_act {σ : FsSt} {i : Nat} {a : Ac} (h : Good σ i) (ha : ASm a) : Good (actS σ a) (i + 1) := by
  obtain ⟨n1, n2⟩ := good_new h ha
  have hm := h.more
  unfold actS
  cases actRuns σ.f σ.g (decide (a.kind = 0)) with
  | true => exact ⟨n1, n2, ask_left h.hf, ask_left h.hg⟩
  | false => exact ⟨hm.few, hm.each, ask_left h.hf, ask_left h.hg⟩
theorem good_step {σ σ' : FsSt} {i : Nat} {a : Ac} {c : Int} (h : Good σ i) (ha : ASm a) (hn : a.n ≤ 9223372036854775807) (hs : StepR σ a σ' c) : Good σ' (i + 1) := by
  by_cases h04 : 0 ≤ a.kind ∧ a.kind ≤ 4
  · rcases hs.act h04.1 h04.2 with ⟨_, rfl, _⟩ | ⟨_, rfl, _⟩
    · exact h.more
    · exact good_act h ha
  by_cases h5 : a.kind = 5
  · obtain ⟨rfl, _⟩ := hs.fail h5
    exact ⟨h.more.few, h.more.each, askOf_in hn, h.hg⟩
  by_cases h6 : a.kind = 6
  · obtain ⟨rfl, _⟩ := hs.fall h6
    exact ⟨h.more.few, h.more.each, h.hf, askOf_in hn⟩
  by_cases h7 : a.kind = 7
  · obtain ⟨⟨ns, hns, rfl⟩, _⟩ := hs.crash h7
    obtain ⟨L, hl, hm⟩ := h.few
    refine ⟨⟨L, by omega, fun u hu => hm u ?_⟩, fun u y hu => ?_, by simp [AskIn], by simp [AskIn]⟩
    · rw [← crN_names ns (σ.fl, a.keep) u]; exact hu
    · rcases crash_each (ks := a.keep) hns (fun u y hu => (h.each u y hu).2.1) u with ⟨_, e⟩ | ⟨z, m, e1, e2, e3, e4⟩
      · have h8 := e.symm.trans hu
        cases h8
      · have := Option.some.inj (e4.symm.trans hu)
        subst this
        have := h.each u z e1
        simp only [List.length_take]
        omega
  · obtain ⟨rfl, _⟩ := hs.no (fun j _ _ => by omega)
    exact h.more

end Go.Proofs.Ytfgonihpakcbbaa
