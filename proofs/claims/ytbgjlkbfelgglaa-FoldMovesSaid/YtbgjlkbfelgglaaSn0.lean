/- What To answers; migrate.To, at any arguments. -/
import Derived.Test.YtbgjlkbfelgglaaSi0
namespace Go.Proofs.Ytbgjlkbfelgglaa
open Go.RowKit

def zeroR : Rc := ⟨0, [], 0, 0, 0, []⟩
/-- What To answers. -/
def Ans (v v2 : Int) (r : Rc) (l : List Dp) (R : Rc) (L : List Dp) (E : Int) : Prop :=
  (isWayB v v2 = false ∧ R = zeroR ∧ L = [] ∧ E = 11) ∨ (isWayB v v2 = true ∧ ¬ MayP v r l ∧ R = zeroR ∧ L = [] ∧ E = 1) ∨ (isWayB v v2 = true ∧ MayP v r l ∧ R = movedR v v2 r ∧ l = L ∧ E = 0)

theorem ans_is (v v2 : Int) (r : Rc) (l : List Dp) : ∃ R L E, Ans v v2 r l R L E := by
  by_cases h1 : isWayB v v2 = true
  · by_cases h2 : MayP v r l
    · exact ⟨_, _, _, .inr (.inr ⟨h1, h2, rfl, rfl, rfl⟩)⟩
    · exact ⟨_, _, _, .inr (.inl ⟨h1, h2, rfl, rfl, rfl⟩)⟩
  · exact ⟨_, _, _, .inl ⟨by simpa using h1, rfl, rfl, rfl⟩⟩

theorem zero_rcv : rcv zeroR none 0 0 = .agg #[.int .i64 0, .string { data := #[] }, .int .u64 0, .slice none 0 0, .int .u64 0, .int .u64 0, .string { data := #[] }] := rfl

theorem deps_none (w : World) (b : Nat) : Deps w b none 0 0 [] := ⟨World.ownsRow_nil _ _ _ _, fun _ => rfl⟩

theorem to_any (v v2 : Int) (r : Rc) (A : Option Addr) (n c : Nat) (l : List Dp) (hn : n ≤ 1000) (hA : A = none → c = 0) (hfit : Fits r l) {R : Rc} {L : List Dp} {E : Int} (h : Ans v v2 r l R L E) (w : World) (hr : Reads w w.heap.size 3 A n (dps l)) :
    Calls Try.prog 30 #[.int .i64 v, .int .i64 v2, rcv r A n c] w fun e w' => ∃ A' n' c', e = .returned (.tuple #[rcv R A' n' c', .int .i64 E]) ∧ n' ≤ n ∧ Deps w' w.heap.size A' n' c' L ∧ Below w.heap.size w w' := by
  rcases h with ⟨h1, rfl, rfl, rfl⟩ | ⟨h1, h2, rfl, rfl, rfl⟩ | ⟨h1, h2, rfl, rfl, rfl⟩
  · exact (to_way v v2 r.kind r.target r.tag r.rule r.out r.time A n c h1 w).mono fun e w' ⟨h3, h4⟩ => ⟨none, 0, 0, by rw [zero_rcv]; exact h3, by omega, deps_none _ _, h4⟩
  · exact (to_arg v v2 r.kind r.target r.tag r.rule r.out r.time A n c h1 w (fun W hb => (may_any v r A n c l hn hfit W ((hr.below hb).more hb.size)).mono fun e w' h => and_mono (b := false) (by simp [h2]) h)).mono fun e w' ⟨h3, h4⟩ => ⟨none, 0, 0, by rw [zero_rcv]; exact h3, by omega, deps_none _ _, h4⟩
  · exact ((to_pair v v2 h1 r A n c l hn hA hfit h2 w hr).out w (Below.refl _ w)).mono fun e w' ⟨A', c', h3, h4, h5⟩ => ⟨A', n, c', h3, Nat.le_refl _, h4, h5⟩
theorem moved_fit {v v2 : Int} {r : Rc} {l : List Dp} (h : Fits r l) : Fits (movedR v v2 r) l := by
  unfold movedR
  split
  · refine ⟨h.1, ?_, h.2.2⟩
    show (if v ≤ 2 ∧ 3 ≤ v2 then ([111, 108, 100] : List UInt8) else r.tag).length ≤ maxLen
    split
    · unfold maxLen; simp
    · exact h.2.1
  · exact h

end Go.Proofs.Ytbgjlkbfelgglaa
