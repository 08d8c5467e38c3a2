/- The walks of thing, Text. -/
import Derived.Test.YtfdncdejjlcgpaaIb
namespace Go.Proofs.Ytfdncdejjlcgpaa
open Go.RowKit Go.Maps Go.ChangeMaps Go.WideMaps

/-- The text of a number; none. -/
def ttext (l : List (List UInt8)) (i : Nat) : List UInt8 := (l[i]?).getD []

set_option maxRecDepth 100000 in
set_option maxHeartbeats 400000 in
theorem thing_any (S : Nat → Prop) (b N : Nat) (l : List (List UInt8)) (i : Nat) (hl : l.length ≤ 1073741824) (w : World) (h : Tab w S b N l) :
    Calls Try.prog 56 #[.pointer (some ⟨b, 0, none⟩), .int .u64 (i : Int)] w fun e w' => e = .returned (.tuple #[tsv (ttext l i), .bool (decide (i < l.length))]) ∧ w = w' := by
  obtain ⟨L, c, mv, h1, _, h3, _⟩ := h
  have hc0 := field_cell (i := 0) h1 rfl
  have hrd := Reads.of_own h3
  obtain ⟨n, hn⟩ : ∃ n, n = l.length := ⟨_, rfl⟩
  rw [← hn] at hc0 hrd hl ⊢
  have HN := Lib.hid hn
  have hw1 : IntKind.u64.wrap (n : Int) = (n : Int) := by rw [IntKind.wrap_u64]; omega
  clear h1 h3 hn
  by_cases hlt : i < n
  · obtain ⟨ad, u, rfl, _, hu, hcell⟩ := hrd.at_ hlt
    obtain ⟨s, hs⟩ : ∃ s, l[i]? = some s := ⟨_, List.getElem?_eq_getElem (by rw [← HN.out]; exact hlt)⟩
    have e1 : ttext l i = s := by rw [ttext, hs]; rfl
    obtain rfl : u = tsv s := by rw [List.getElem?_map, hs] at hu; simpa using hu.symm
    rw [e1, decide_eq_true hlt]
    unfold tsv at hcell ⊢
    clear hu hs e1 hrd
    go_enter Try.func56, Try.ntmps56
    go_wp2
    go_ret2
    exact ⟨rfl, rfl⟩
  · have e1 : ttext l i = [] := by rw [ttext, List.getElem?_eq_none (by rw [← HN.out]; omega)]; rfl
    have e2 : tsv ([] : List UInt8) = .string ⟨#[]⟩ := rfl
    rw [e1, decide_eq_false hlt, e2]
    clear hrd e1 e2
    go_enter Try.func56, Try.ntmps56
    go_wp2
    go_ret2
    exact ⟨rfl, rfl⟩

set_option maxRecDepth 100000 in
set_option maxHeartbeats 400000 in
theorem Text_any (S : Nat → Prop) (b N : Nat) (l : List (List UInt8)) (i : Nat) (hl : l.length ≤ 1073741824) (w : World) (h : Tab w S b N l) :
    Calls Try.prog 32 #[.pointer (some ⟨b, 0, none⟩), .int .u64 (i : Int)] w fun e w' => e = .returned (.tuple #[tsv (ttext l i), .bool (decide (i < l.length))]) ∧ w = w' := by
  have HF := Lib.hid (thing_any S b N l i hl w h)
  unfold tsv at HF ⊢
  generalize decide (i < l.length) = q at HF ⊢
  clear h hl
  go_enter Try.func32, Try.ntmps32
  go_wp2_with (first
    | (go_at_call 39; refine (all_any b _).mono ?_; rintro e w1 ⟨rfl, rfl⟩)
    | (go_at_call 56; refine HF.out.mono ?_; rintro e w1 ⟨rfl, rfl⟩))
  go_ret2
  exact ⟨rfl, rfl⟩

end Go.Proofs.Ytfdncdejjlcgpaa
