/- rule.Clean where something is wrong; the document's Clean where something is. -/
import Derived.Test.YtacjiojfjkonkaaWr6
import Derived.Test.YtacjiojfjkonkaaXl
namespace Go.Proofs.Ytacjiojfjkonkaa
open Go.RowKit Go.Sort

set_option maxRecDepth 100000 in
set_option maxHeartbeats 1000000 in
theorem clean_bad (A : Option Addr) (n c : Nat) (xs : List Nw) (hn : n ≤ 1000000) (hok : NOk xs) (hc0 : chk (nds xs) ≠ 0) (g : Value) (w : World) (h : Nodes w w.heap.size A n xs) :
    Calls Try.prog 9 #[.slice A n c, g] w fun e w' => (∃ z : Int, z = chk (nds xs) ∧ e = .returned (.tuple #[.slice none 0 0, .int .i64 z])) ∧ Below w.heap.size w w' := by
  have HOR : Hid (Calls Try.prog 18 #[.slice A n c] w fun e w' => (∃ z : Int, (z = chk (nds xs) ∧ z ≠ 0) ∧ e = .returned (.tuple #[.slice none 0 0, .int .i64 z])) ∧ Below w.heap.size w w') :=
    Calls.mono (order_any A n c xs hn hok w h) (fun e w' ⟨⟨v, he, hv⟩, hb2⟩ => by
      rcases hv with ⟨_, h1⟩ | ⟨h0, _⟩
      · subst h1
        exact ⟨⟨_, ⟨rfl, hc0⟩, he⟩, hb2⟩
      · exact absurd h0 hc0)
  clear h hok hc0
  go_enter Try.func9, Try.ntmps9
  go_wp2_with (go_at_call 18; refine HOR.out.mono ?_; rintro e w1 ⟨⟨z, hz, rfl⟩, hb1⟩; have HZ := Lib.hid hz; have hne : (z != 0) = true := (by rw [bne_iff_ne]; exact hz.2); have HB1 := Lib.hid hb1; clear hb1 hz)
  go_ret2
  exact ⟨⟨z, HZ.out.1, rfl⟩, HB1.out⟩

set_option maxRecDepth 100000 in
set_option maxHeartbeats 1000000 in
theorem rclean_bad (A : Option Addr) (n c : Nat) (xs : List Nw) (hn : n ≤ 1000000) (hnc : n ≤ c) (hok : NOk xs) (hxc : ∀ x ∈ xs, x.n ≤ x.c) (hc0 : chk (nds xs) ≠ 0) (g : Value) (w : World) (h : Nodes w w.heap.size A n xs) :
    Calls Try.prog 10 #[.slice A n c, g] w fun e w' => (∃ (z : Int) (A5 : Option Addr), z = chk (nds xs) ∧ e = .returned (.tuple #[.slice A5 0 0, .int .i64 z])) ∧ Below w.heap.size w w' := by
  have HCH := Lib.hid (fun (W : World) (hb : Below w.heap.size w W) => rcheck_any A n c xs hn hnc hok hxc W ((h.below hb).more hb.size))
  have HB0 := Lib.hid ((Below.refl w.heap.size w).alloc (Nat.le_refl _) (.cells #[] 44))
  obtain ⟨z, hz⟩ : ∃ z, z = chk (nds xs) := ⟨_, rfl⟩
  rw [← hz] at HCH hc0
  have HZ := Lib.hid hz
  have hne : (z != 0) = true := by rw [bne_iff_ne]; exact hc0
  clear h hok hxc hc0 hz
  go_enter Try.func10, Try.ntmps10
  go_wp2_with (go_at_call 21; refine (HCH.out _ HB0.out).mono ?_; rintro e w1 ⟨rfl, hb1⟩; have HB1 := Lib.hid (HB0.out.trans (hb1.mono HB0.out.size)); clear hb1)
  go_ret2
  exact ⟨⟨z, _, HZ.out, rfl⟩, HB1.out⟩

end Go.Proofs.Ytacjiojfjkonkaa
