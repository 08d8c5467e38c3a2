/- A loop over an iterator that makes what it hands on: what is so of each element where it is handed on is told to the round, and what is so of all of them where the loop ends is told behind it. -/
import Derived.RangeFuncNested
import Derived.RangeFuncLeaves
import Derived.Below
namespace Go.Proofs.YtoanmbhnhofoiaaDoor
open Go.RowKit

/-- The contract of such an iterator: T is so of each element, where it is handed on; Kp is what a round keeps; S is so at the end. -/
def Hands {α : Type} (F : Fence) (n : Nat) (P : Program) (gf : Nat) (lb : Array Value) (encs : α → Array Value) (T : List α → α → World → Prop) (Kp : World → World → Prop) (S : List α → World → Prop) (w : World) : Prop :=
  ∀ (l : Nat) (J : List α → World → Prop) (W : World), Below w.heap.size w W → (∀ s A B, J s A → A.grownBy B none → J s B) →
    (∀ pre x V, J pre V → T pre x V → YieldAt F (n - 1) P l (encs x) V fun e V' => e = .returned (.bool true) ∧ J (pre ++ [x]) V' ∧ Kp V V') → J [] W →
    CallsIn F n P gf (#[.func (.yield l) #[] #[]] ++ lb) W fun e W' => (∃ v, e = .returned v) ∧ ∃ xs, S xs W' ∧ J xs W'

/-- A property that a turn of the loop's own records leaves as it is. -/
def Own2 (B : Nat) (p : World → Prop) : Prop := ∀ (W : World) (l : Nat) (o o' : Obj), p W → B ≤ l → W.heap[l]? = some o → o.isCells = false → p (W.putObj l o')

theorem loop_hands {α : Type} {F : Fence} {n : Nat} {P : Program} {g : Operand} {ps : Array Tmp} {assign body : Code} {Q : Exit → Act → World → Prop} {a : Act} {w : World}
    (hro : F.round = none) (h1 : 1 ≤ n) {gf : Nat} {lb : Array Value} (hg : a.eval g = .func (.func gf) #[] lb) (hFg : F.fn gf) (eg : ∀ args w, (callFunc gf args).run P w = .ok (.enter gf args) w)
    {encs : α → Array Value} {T : List α → α → World → Prop} {Kp : World → World → Prop} {S : List α → World → Prop} (hseq : Hands F (n - 1) P gf lb encs T Kp S w) (hps : ∀ x, (encs x).size = ps.size)
    (hKt : ∀ {A B C : World}, Kp A B → Kp B C → Kp A C) (hKb : ∀ (W : World) (l : Nat) (o o' : Obj), w.heap.size ≤ l → W.heap[l]? = some o → o.isCells = false → Kp W (W.putObj l o'))
    (I : List α → World → Prop) (hT : ∀ pre x, Own2 w.heap.size (T pre x)) (hS : ∀ xs, Own2 w.heap.size (S xs)) (hI : ∀ xs, Own2 w.heap.size (I xs)) (hIg : ∀ s A B, I s A → A.grownBy B none → I s B) (h0 : I [] w) (a₁ : α → Act)
    (hassign : ∀ (l : Nat) (x : α) (W : World) (K : Act → World → Prop), K (a₁ x) W →
      assign.wpIn (F.inRound l) (n - 1 - 1) P (Exit.then K (fun _ _ _ => False)) { tmps := (ps.zip (encs x)).foldl (fun t (p, v) => t.setIfInBounds p v) a.tmps, defers := [] } W)
    (hbody : ∀ (l : Nat) (pre : List α) (x : α) (W : World), I pre W → T pre x W → body.wpIn (F.inRound l) (n - 1 - 1) P (fun e _ W' => e = .normal ∧ KeepsOthers W W' ∧ Kp W W' ∧ I (pre ++ [x]) W') (a₁ x) W)
    (hdone : ∀ (D : Nat) (xs : List α) (W : World), w.heap.size ≤ D → S xs W → I xs W → W.heap[D]? = some (.deferred (some [])) → Q .normal { a with defers := { target := .collected D, args := #[] } :: a.defers } W) :
    (Code.rangeFunc g ps assign body).wpIn F n P Q a w := by
  refine wpIn_rangeFunc fun fn hfn => ?_
  rw [hro]
  -- the loop's record, and the world with it
  let L : LoopState → Loop := fun st => { state := st, pending := none, fn, tmps := a.tmps, params := ps, assign, body, defers := w.heap.size }
  obtain ⟨b, hb⟩ : ∃ b, b = w.heap.size := ⟨_, rfl⟩
  obtain ⟨Y, hY⟩ : ∃ Y, Y = (w.alloc (.deferred (some []))).alloc (.loop (L .ready)) := ⟨_, rfl⟩
  have hgY : w.grownBy Y none := by
    rw [hY]
    exact ⟨rfl, rfl, rfl, by simp; omega, fun k hk _ => (Below.heap_alloc _ _ _ (by simp; omega)).trans (Below.heap_alloc _ _ _ hk)⟩
  have hYl : Y.heap[b + 1]? = some (.loop (L .ready)) := by
    have := World.alloc_heap_new (w.alloc (.deferred (some []))) (.loop (L .ready))
    rw [World.size_alloc, ← hY, ← hb] at this
    exact this
  have hYd : Y.heap[b]? = some (.deferred (some [])) := by
    rw [hY, hb]
    exact (Below.heap_alloc _ _ _ (by simp)).trans (World.alloc_heap_new w _)
  refine ⟨b + 1, [{ target := .collected b, args := #[] }], Y, { target := .fn (.func gf) lb, args := #[.func (.yield (b + 1)) #[] #[]] }, Y, gf, #[.func (.yield (b + 1)) #[] #[]] ++ lb, Y,
    by rw [hY, hb]; exact run_enterLoop_outer _ _ _ _ _, by simp only [resolve, hg]; simp [go_sem], fun f' hf' => by simp [Target.leads] at hf'; subst hf'; exact hFg, by simp [invoke, go_sem, eg], fun _ => h1, ?_⟩
  have hbelow : Below w.heap.size w Y := ⟨hgY.os, hgY.tape, hgY.output, hgY.size, fun k hk => hgY.block k hk (by simp)⟩
  refine (hseq (b + 1) (fun xs W => I xs W ∧ W.heap[b + 1]? = some (.loop (L .ready)) ∧ W.heap[b]? = some (.deferred (some []))) Y hbelow
    (fun s A B h hg' => ⟨hIg s A B h.1 hg', (hg'.block _ (Array.getElem?_eq_some_iff.1 h.2.1).1 (by simp)).trans h.2.1, (hg'.block _ (Array.getElem?_eq_some_iff.1 h.2.2).1 (by simp)).trans h.2.2⟩) ?_ ⟨hIg _ _ _ h0 hgY, hYl, hYd⟩).mono ?_
  · -- a round
    rintro pre x V ⟨hi, hl, hd⟩ ht
    have hsz : b + 1 < V.heap.size := (Array.getElem?_eq_some_iff.1 hl).1
    obtain ⟨V2, hV2⟩ : ∃ V2, V2 = V.putObj (b + 1) (.loop (L .busy)) := ⟨_, rfl⟩
    have hl2 : V2.heap[b + 1]? = some (.loop (L .busy)) := by rw [hV2]; exact World.putObj_heap_same hsz
    have hd2 : V2.heap[b]? = some (.deferred (some [])) := by rw [hV2]; exact (World.putObj_heap_other (by omega)).trans hd
    have hK2 : Kp V V2 := by rw [hV2]; exact hKb V (b + 1) _ _ (by omega) hl rfl
    have hi2 : I pre V2 := by rw [hV2]; exact hI pre V (b + 1) _ _ hi (by omega) hl rfl
    have ht2 : T pre x V2 := by rw [hV2]; exact hT pre x V (b + 1) _ _ ht (by omega) hl rfl
    refine ⟨fn, _, assign, body, run_yield (P := P) (args := encs x) hl (hps x), roundIn_of_wpIn hfn (hassign _ x V _ ⟨V2, ?_, ?_⟩)⟩
    · rw [hV2]; exact run_beginRound hl rfl
    refine wpIn_mono (hbody (b + 1) pre x V2 hi2 ht2) ?_
    rintro e a3 V3 ⟨rfl, hko, hkp, hi3⟩
    have hl3 := hko.same _ _ hl2 rfl
    have hd3 := hko.same _ _ hd2 rfl
    have hend := run_endRound (P := P) none hl3
    refine ⟨_, _, hend, ⟨rfl, ⟨hI _ V3 (b + 1) _ _ hi3 (by omega) hl3 rfl, World.putObj_heap_same (Array.getElem?_eq_some_iff.1 hl3).1, (World.putObj_heap_other (by omega)).trans hd3⟩, hKt (hKt hK2 hkp) (hKb V3 (b + 1) _ _ (by omega) hl3 rfl)⟩⟩
  · -- behind the loop
    rintro e Z ⟨⟨v, rfl⟩, xs, hs, hi, hl, hd⟩
    have hend := run_endLoop (P := P) hl (by simp [L])
    refine ⟨none, _, hend, ?_⟩
    exact hdone b xs _ (by omega) (hS xs Z (b + 1) _ _ hs (by omega) hl rfl) (hI xs Z (b + 1) _ _ hi (by omega) hl rfl) ((World.putObj_heap_other (by omega)).trans hd)

end Go.Proofs.YtoanmbhnhofoiaaDoor
