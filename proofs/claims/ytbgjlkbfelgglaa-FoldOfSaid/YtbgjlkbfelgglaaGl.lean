/- The document's fold. -/
import Derived.Test.YtbgjlkbfelgglaaGk
namespace Go.Proofs.Ytbgjlkbfelgglaa
open Go.RowKit

set_option maxRecDepth 100000 in
set_option maxHeartbeats 1000000 in
theorem rof_any (A : Option Addr) (n c : Nat) (xs : List Rw) (hn : n ≤ 100000) (hf : ∀ x ∈ xs, x.t.length ≤ maxLen) (w : World) (h : Recs w w.heap.size A n xs) :
    Calls Try.prog 12 #[.slice A n c] w fun e w' => ∃ A' c', e = .returned (.slice A' (fo Rw.k Rw.t xs).length c') ∧ Recs w' w'.heap.size A' (fo Rw.k Rw.t xs).length (fo Rw.k Rw.t xs) ∧ Below w.heap.size w w' := by
  have hl0 : xs.length = n := h.len
  have HL := Lib.hid hl0
  have H1 := Lib.hid h
  have HF := Lib.hid hf
  have hb0 := (Below.refl w.heap.size w).alloc (Nat.le_refl _) (.cells #[] 26)
  have HST : Hid (∃ (i : Nat) (A' : Option Addr) (c' : Nat), i ≤ n ∧ Value.int .i64 0 = .int .i64 (i : Int) ∧ Value.slice (some ⟨w.heap.size, 0, none⟩) 0 0 = .slice A' (fo Rw.k Rw.t (xs.take i)).length c' ∧ Recs (w.alloc (.cells #[] 26)) (w.alloc (.cells #[] 26)).heap.size A' (fo Rw.k Rw.t (xs.take i)).length (fo Rw.k Rw.t (xs.take i)) ∧ (A' = none → c' = 0) ∧ Below w.heap.size w (w.alloc (.cells #[] 26))) :=
    ⟨0, some ⟨w.heap.size, 0, none⟩, 0, Nat.zero_le _, rfl, rfl, Recs.nil _ _ _, (fun h => by cases h), hb0⟩
  clear h hf hb0
  go_enter Try.func12, Try.ntmps12
  go_wp2
  go_loopw [3, 4] (fun va idx wr => ∃ (i : Nat) (A' : Option Addr) (c' : Nat), i ≤ n ∧ idx = .int .i64 (i : Int) ∧ va = .slice A' (fo Rw.k Rw.t (xs.take i)).length c' ∧ Recs wr wr.heap.size A' (fo Rw.k Rw.t (xs.take i)).length (fo Rw.k Rw.t (xs.take i)) ∧ (A' = none → c' = 0) ∧ Below w.heap.size w wr) (fun _ idx _ => n - (intOf idx).toNat)
  case atStart => exact HST.out
  case round =>
    obtain ⟨i, A', c', hi, rfl, rfl, hrc, hac, hb⟩ := hrel
    have HRC := Lib.hid hrc
    have HAC := Lib.hid hac
    have HB := Lib.hid hb
    by_cases hlt : i < n
    · obtain ⟨x, hx⟩ : ∃ x, xs[i]? = some x := ⟨_, List.getElem?_eq_getElem (by rw [HL.out]; exact hlt)⟩
      have hm := List.mem_of_getElem? hx
      obtain ⟨ad, rfl, _, k0, k1, k2, k3, k4, k5, k6⟩ := recs_cells (H1.out.below hb).1 i x hx
      have hrx := (H1.out.2 x hm)
      have hlen : (fo Rw.k Rw.t (xs.take i)).length ≤ 100000 := by
        have h1 := fo_len (k := Rw.k) (t := Rw.t) (xs.take i)
        rw [List.length_take] at h1
        omega
      have HQ := Lib.hid (refput_any A' _ c' (fo Rw.k Rw.t (xs.take i)) x hlen (fun s hs => HF.out s (List.mem_of_mem_take (fo_mem hs).1)) (HF.out x hm) wr hrc ⟨(hrx.1.below hb).more hb.size, hrx.2⟩ hac)
      rw [← fo_snoc hx] at HQ
      generalize fo Rw.k Rw.t (xs.take i) = S at *
      obtain ⟨⟨k, t, u, o, m, g⟩, A4, n4, c4, l4⟩ := x
      unfold Rw.val rcv rsv at HQ
      simp only at k0 k1 k2 k3 k4 k5 k6 HQ
      have hi0 : (0 : Int) ≤ (i : Int) := by omega
      have hi1 : (i : Int) < (n : Int) := by omega
      clear hx hm hrx hlen hrc hac hb
      go_wp2_with (go_at_call 23; refine HQ.out.mono ?_; rintro e w3 ⟨A5, c5, rfl, hrc3, hac3, hb3⟩; have HRC3 := Lib.hid hrc3; have HAC3 := Lib.hid hac3; have HB3 := Lib.hid (HB.out.trans (hb3.mono HB.out.size)); clear hrc3 hac3 hb3)
      exact ⟨⟨i + 1, A5, c5, by omega, by go_num, rfl, HRC3.out, HAC3.out, HB3.out⟩, by simp [intOf]; omega⟩
    · obtain rfl : i = n := by omega
      have e : xs.take i = xs := List.take_of_length_le (by rw [HL.out]; omega)
      rw [e] at HRC ⊢
      clear e hrc hac hb
      go_wp2
      go_ret
      exact ⟨A', c', rfl, HRC.out, HB.out⟩

end Go.Proofs.Ytbgjlkbfelgglaa
