/- The walk of the chapter's example: true, whatever the memory. -/
import Derived.Test.YtffmbeggigohcaaBc
namespace Go.Proofs.Ytffmbeggigohcaa
open Go.RowKit Go.Shelf

theorem blob_ab : blob [97, 98] = [2, 97, 98] := by
  rw [blob, vb_lt (by decide)]; rfl

theorem bg_ab : bg 1 0 [2, 97, 98] = ([], 0, 5) :=
  bg_limit (n := 2) (k := 1) (by rw [List.drop_zero, gr_last (by decide) (by decide)]; rfl) (by decide)

set_option maxRecDepth 100000 in
set_option maxHeartbeats 400000 in
theorem fixed_any (w : World) : Calls Try.prog 7 #[] w fun e w' => e = .returned (.bool true) ∧ Below w.heap.size w w' := by
  have hput : ∀ W : World, Calls Try.prog 8 #[.slice none 0 0, .string ⟨#[97, 98]⟩] W fun e w' => ∃ A c, e = .returned (.slice A 3 c) ∧ 3 ≤ c ∧ Reads w' w'.heap.size 1 A 3 ([2, 97, 98].map bv) ∧ Below W.heap.size W w' := by
    intro W
    have := bput_nil [97, 98] (by rw [blob_ab]; decide) W
    rw [blob_ab] at this
    refine this.mono ?_
    rintro e w' ⟨v, rfl, ho, hb⟩
    obtain ⟨A, c, rfl, hc, hr⟩ := own_reads ho
    exact ⟨A, c, rfl, hc, hr, hb⟩
  have HPUT := Lib.hid hput
  clear hput
  have htl : (tx [2, 97, 98]).toList = [2, 97, 98] := tx_toList _
  go_enter Try.func7, Try.ntmps7
  go_wp2_with (first
    | (go_at_call 9; refine HGET.mono ?_; rintro e w' ⟨rfl, rfl⟩)
    | (go_at_call 8; refine (HPUT.out _).mono ?_; rintro e w1 ⟨A, c, rfl, hc, hr, hb⟩; have HGET := bget_any A 3 c 0 1 w1.heap.size [2, 97, 98] hc (by omega) (by omega) (by omega) w1 hr; rw [bg_ab, bres] at HGET; have hcv := conv_reads (P := Try.prog) (src := 22) (dst := 9) (c := c) Try.underlying22 Try.underlying5 Try.underlying9 hr))
  go_ret
  exact ⟨rfl, hb⟩

end Go.Proofs.Ytffmbeggigohcaa
