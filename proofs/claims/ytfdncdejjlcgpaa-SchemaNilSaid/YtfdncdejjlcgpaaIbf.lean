/- The walks of find, Find. -/
import Derived.Test.YtfdncdejjlcgpaaIb
namespace Go.Proofs.Ytfdncdejjlcgpaa
open Go.RowKit Go.Maps Go.ChangeMaps Go.WideMaps

set_option maxRecDepth 100000 in
set_option maxHeartbeats 400000 in
theorem find_any (S : Nat → Prop) (b N : Nat) (l : List (List UInt8)) (s : List UInt8) (hs : s.length ≤ maxLen) (w : World) (h : Tab w S b N l) :
    Calls Try.prog 94 #[.pointer (some ⟨b, 0, none⟩), tsv s] w fun e w' => e = .returned (.tuple #[.int .u64 (tnum l s : Int), .bool (decide (s ∈ l))]) ∧ w = w' := by
  obtain ⟨L, c, mv, h1, _, _, _, h5, _⟩ := h
  have hc1 := field_cell (i := 1) h1 rfl
  have hkey := tkeyOf hs
  have HK := Lib.hid hkey
  unfold tsv at hkey ⊢
  rcases h5 with ⟨rfl, rfl⟩ | ⟨mb, D, rfl, _, hm, hn⟩
  · have hnil := fun W : World => look_nil (w := W) (P := Try.prog) true tkey Try.underlying57 (zeroU W) hkey
    have hnum : tnum [] s = 0 := by simp [tnum]
    rw [hnum]
    clear hkey h1
    go_enter Try.func94, Try.ntmps94
    go_wp2
    go_ret2
    exact ⟨by simp, rfl⟩
  · obtain ⟨e1, e2⟩ := hn.2 s
    have E1 := Lib.hid e1
    have E2 := Lib.hid e2
    clear e1 e2 h1
    go_enter Try.func94, Try.ntmps94
    go_wp2_with (at_lookup; refine wpList_lookup_own_ok_int _ rfl _ _ 57 rfl 9 23 .u64 tkey Try.underlying57 Try.underlying23 (zeroU _) mb N D rfl hm _ _ rfl hkey ?_; intro cv hat hwc)
    go_ret2
    have e3 := E2.out
    unfold u0 at e3
    rw [e3] at hat
    have : cv = (tnum l s : Int) := by injection hat with hat; injection hat with _ hat; exact hat.symm
    rw [this, E1.out]
    exact ⟨rfl, rfl⟩

set_option maxRecDepth 100000 in
set_option maxHeartbeats 400000 in
theorem Find_any (S : Nat → Prop) (b N : Nat) (l : List (List UInt8)) (s : List UInt8) (hs : s.length ≤ maxLen) (w : World) (h : Tab w S b N l) :
    Calls Try.prog 88 #[.pointer (some ⟨b, 0, none⟩), tsv s] w fun e w' => e = .returned (.tuple #[.int .u64 (tnum l s : Int), .bool (decide (s ∈ l))]) ∧ w = w' := by
  have HF := Lib.hid (find_any S b N l s hs w h)
  unfold tsv at HF ⊢
  generalize decide (s ∈ l) = q at HF ⊢
  clear h hs
  go_enter Try.func88, Try.ntmps88
  go_wp2_with (first
    | (go_at_call 39; refine (all_any b _).mono ?_; rintro e w1 ⟨rfl, rfl⟩)
    | (go_at_call 94; refine HF.out.mono ?_; rintro e w1 ⟨rfl, rfl⟩))
  go_ret2
  exact ⟨rfl, rfl⟩

end Go.Proofs.Ytfdncdejjlcgpaa
