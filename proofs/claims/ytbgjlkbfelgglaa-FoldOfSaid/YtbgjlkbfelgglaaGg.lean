/- fold.Of. -/
import Derived.Test.YtbgjlkbfelgglaaGf
namespace Go.Proofs.Ytbgjlkbfelgglaa
open Go.RowKit Go.Maps Go.ChangeMaps Go.WideMaps Go.Sort

set_option maxRecDepth 100000 in
set_option maxHeartbeats 1000000 in
theorem fof_any (A : Option Addr) (n c : Nat) (xs : List Rw) (hn : n ≤ 1000000) (hf : ∀ x ∈ xs, x.t.length ≤ maxLen ∧ x.n ≤ 1000000) (w : World) (h : Recs w w.heap.size A n xs) :
    Calls Try.prog 10 #[.slice A n c] w fun e w' => ∃ A' c' zs, e = .returned (.slice A' (fo Rw.k Rw.t xs).length c') ∧ zs.map Rw.say = (fo Rw.k Rw.t xs).map Rw.say ∧ StateIn w' w.heap.size A' (fo Rw.k Rw.t xs).length c' zs ∧ Below w.heap.size w w' := by
  have hl : xs.length = n := h.len
  have hlen : (fo Rw.k Rw.t xs).length ≤ 1000000 := by have := fo_len (k := Rw.k) (t := Rw.t) xs; omega
  have HFO := Lib.hid (folded_any A n c xs hn (fun x hx => (hf x hx).1) w h)
  have hso : Sound w (fo Rw.k Rw.t xs) := fo_sound hf h (fun x hx => (fo_mem hx).1)
  have HTO : Hid (∀ W, Below w.heap.size w W → RMap W w.heap.size n (fo Rw.k Rw.t xs) → Calls Try.prog 21 #[.map (some w.heap.size)] W fun e w' => ∃ A' c' zs, e = .returned (.slice A' (fo Rw.k Rw.t xs).length c') ∧ zs.map Rw.say = (fo Rw.k Rw.t xs).map Rw.say ∧ StateIn w' W.heap.size A' (fo Rw.k Rw.t xs).length c' zs ∧ Below W.heap.size W w') := fun W hb hm =>
    told_any w.heap.size n hn (fo Rw.k Rw.t xs) hlen W (hso.below hb) hm
  generalize fo Rw.k Rw.t xs = S at *
  clear h hf hl hso
  go_enter Try.func10, Try.ntmps10
  go_wp2_with (first
    | (go_at_call 21; refine (HTO.out _ HB1.out HM1.out).mono ?_; rintro e w2 ⟨A', c', zs, rfl, hsay, hst, hb2⟩; have HSAY := Lib.hid hsay; have HST := Lib.hid hst; have HB2 := Lib.hid (HB1.out.trans (hb2.mono HB1.out.size)); clear hsay hst hb2)
    | (go_at_call 22; refine HFO.out.mono ?_; rintro e w1 ⟨rfl, hm1, hb1⟩; have HM1 := Lib.hid hm1; have HB1 := Lib.hid hb1; clear hm1 hb1))
  go_ret
  exact ⟨A', c', zs, rfl, HSAY.out, HST.out.less HB1.out.size, HB2.out⟩

end Go.Proofs.Ytbgjlkbfelgglaa
