/- The walk of the chapter's examples: true, whatever the memory. -/
import Derived.Test.YtclceinoekebcaaG
import Derived.Test.YtclceinoekebcaaS
namespace Go.Proofs.Ytclceinoekebcaa
open Go.RowKit Go.Shelf

theorem put_nil (k : Nat) (hk : k < top) (w : World) :
    Calls Try.prog 8 #[.slice none 0 0, .int .u64 (k : Int)] w fun e w' => ∃ v, e = .returned v ∧ w'.ownsRow w.heap.size 5 1 v (vb k).length ((vb k).map bv) ∧ Below w.heap.size w w' :=
  put_any none 0 k [] hk (by simp) w Reads.none_

theorem vb300 : vb 300 = [172, 2] := by
  rw [vb_ge (by omega), vb_lt (by omega)]; rfl

theorem gr80 : gr 0 0 [128, 0] = (0, 0, 3) := by
  rw [gr_on (by decide) (by decide), gr_bad (by decide)]

theorem reads_two (W : World) (e : TypeId) (x y : UInt8) : Reads (W.alloc (.cells #[bv x, bv y] e)) (W.heap.size + 1) 1 (some ⟨W.heap.size, 0, none⟩) 2 ([x, y].map bv) :=
  ⟨rfl, fun _ => ⟨_, rfl, by simp, fun j u hu => by
    match j with
    | 0 =>
      have hu' : bv x = u := by simpa using hu
      subst hu'
      simp [Addr.add]
    | 1 =>
      have hu' : bv y = u := by simpa using hu
      subst hu'
      simp [Addr.add]
    | j + 2 => simp at hu⟩⟩

set_option maxRecDepth 100000 in
set_option maxHeartbeats 400000 in
theorem fixed_any (w : World) : Calls Try.prog 7 #[] w fun e w' => e = .returned (.bool true) ∧ Below w.heap.size w w' := by
  have hget : ∀ W : World, Calls Try.prog 9 #[.slice (some ⟨W.heap.size, 0, none⟩) 2 2, .int .i64 0] (W.alloc (.cells #[.int .u8 128, .int .u8 0] 5)) fun e w' => e = .returned (.tuple #[.int .u64 0, .int .i64 0, .int .i64 3]) ∧ (W.alloc (.cells #[.int .u8 128, .int .u8 0] 5)) = w' := by
    intro W
    have := get_any (some ⟨W.heap.size, 0, none⟩) 2 2 0 (W.heap.size + 1) [128, 0] (by omega) (by omega) (by omega) (W.alloc (.cells #[bv 128, bv 0] 5)) (reads_two W 5 128 0)
    rw [List.drop_zero, gr80] at this
    exact this
  have HGET := Lib.hid hget
  clear hget
  have hput : ∀ W : World, Calls Try.prog 8 #[.slice none 0 0, .int .u64 300] W fun e w' => ∃ v, e = .returned v ∧ w'.ownsRow W.heap.size 5 1 v 2 ([172, 2].map bv) ∧ Below W.heap.size W w' := by
    intro W
    have := put_nil 300 (by unfold top; omega) W
    rw [vb300] at this
    exact this
  have HPUT := Lib.hid hput
  clear hput
  have htl : (tx [172, 2]).toList = [172, 2] := tx_toList _
  go_enter Try.func7, Try.ntmps7
  go_wp2_with (first
    | (go_at_call 9; refine (HGET.out _).mono ?_; rintro e w' ⟨rfl, rfl⟩)
    | (go_at_call 8; refine (HPUT.out _).mono ?_; rintro e w' ⟨v, rfl, ho, hb⟩; obtain ⟨g, c, rfl⟩ := ownsRow_succ ho; have hcv := conv_reads (P := Try.prog) (src := 22) (dst := 9) (c := c) Try.underlying22 Try.underlying5 Try.underlying9 (Reads.of_own ho)))
  go_ret
  exact ⟨rfl, ((Below.refl _ w).alloc (Nat.le_refl _) _).trans (hb.mono (by simp))⟩

end Go.Proofs.Ytclceinoekebcaa
