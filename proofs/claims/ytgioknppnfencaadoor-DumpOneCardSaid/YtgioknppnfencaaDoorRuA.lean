/- The document's May. -/
import Derived.Test.YtgioknppnfencaaDoorRo
import Derived.Test.YtgioknppnfencaaDoorRb
namespace Go.Proofs.YtgioknppnfencaaDoor
open Go.RowKit

theorem nodup_snoc {t : List UInt8} {ns : List (List UInt8)} {s : List UInt8} : (t :: (ns ++ [s])).Nodup ↔ (t :: ns).Nodup ∧ s ≠ t ∧ s ∉ ns := by
  rw [List.nodup_cons, List.nodup_cons, List.nodup_append]
  simp only [List.mem_append, List.mem_singleton, List.nodup_cons, List.not_mem_nil, not_false_iff, List.nodup_nil, and_true, true_and]
  constructor
  · rintro ⟨h1, h2, h3⟩
    exact ⟨⟨fun h => h1 (.inl h), h2⟩, fun h => h1 (.inr h.symm), fun h => h3 s h s rfl rfl⟩
  · rintro ⟨⟨h1, h2⟩, h3, h4⟩
    refine ⟨fun h => ?_, h2, fun a ha b hb e => ?_⟩
    · rcases h with h | h
      · exact h1 h
      · exact h3 h.symm
    · subst hb; subst e; exact h4 ha
theorem nodup_take {t : List UInt8} {ns : List (List UInt8)} (h : (t :: ns).Nodup) (i : Nat) : (t :: ns.take i).Nodup := by
  rw [List.nodup_cons] at h ⊢
  exact ⟨fun hm => h.1 (List.mem_of_mem_take hm), h.2.sublist (List.take_sublist _ _)⟩

def OmRel (v : Int) (w : World) (o : Obj) (t : List UInt8) (l : List Dp) (idx : Value) (wr : World) : Prop :=
  ∃ i : Nat, i ≤ l.length ∧ idx = .int .i64 (i : Int) ∧ (∀ d ∈ l.take i, DepP v d) ∧ (t :: (names l).take i).Nodup ∧ Below w.heap.size w wr ∧ wr.heap[w.heap.size]? = some o ∧ w.heap.size < wr.heap.size
def ImRel (w : World) (o x : Obj) (b i : Nat) (s : List UInt8) (l : List Dp) (idx : Value) (wr : World) : Prop :=
  ∃ j : Nat, j ≤ i ∧ idx = .int .i64 (j : Int) ∧ s ∉ (names l).take j ∧ Below w.heap.size w wr ∧ wr.heap[w.heap.size]? = some o ∧ w.heap.size < wr.heap.size ∧ wr.heap[b]? = some x ∧ b < wr.heap.size

end Go.Proofs.YtgioknppnfencaaDoor
