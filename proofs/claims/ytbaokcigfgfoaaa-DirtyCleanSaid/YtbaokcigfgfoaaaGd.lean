/- fold.folded. -/
import Derived.Test.YtbaokcigfgfoaaaGc
namespace Go.Proofs.Ytbaokcigfgfoaaa
open Go.RowKit Go.Maps Go.ChangeMaps Go.WideMaps

theorem fo_snoc {xs : List Rw} {i : Nat} {x : Rw} (hx : xs[i]? = some x) : fo Rw.k Rw.t (xs.take (i + 1)) = put1 Rw.k Rw.t (fo Rw.k Rw.t (xs.take i)) x := by
  unfold fo
  rw [List.take_add_one, hx, List.foldl_append]
  rfl

set_option maxRecDepth 100000 in
set_option maxHeartbeats 1000000 in
theorem folded_any (A : Option Addr) (n c : Nat) (xs : List Rw) (hn : n ≤ 1000000) (hf : ∀ x ∈ xs, x.t.length ≤ maxLen) (w : World) (h : Recs w w.heap.size A n xs) :
    Calls Try.prog 24 #[.slice A n c] w fun e w' => e = .returned (.map (some w.heap.size)) ∧ RMap w' w.heap.size n (fo Rw.k Rw.t xs) ∧ Below w.heap.size w w' := by
  have HL : Hid (xs.length = n) := h.len
  have H1 := Lib.hid h
  have HF := Lib.hid hf
  have HM0 := Lib.hid (rmap_start w)
  have HB0 : Hid (Below w.heap.size w (w.alloc (.map #[] 0))) := (Below.refl _ w).alloc (Nat.le_refl _) _
  have hmm := @run_makeMap Try.prog
  clear h hf
  go_enter Try.func24, Try.ntmps24
  go_wp2
  go_loopw [9] (fun idx wr => ∃ i : Nat, i ≤ n ∧ idx = .int .i64 (i : Int) ∧ RMap wr w.heap.size i (fo Rw.k Rw.t (xs.take i)) ∧ Below w.heap.size w wr) (fun idx _ => n - (intOf idx).toNat)
  case atStart => exact ⟨0, by omega, rfl, HM0.out, HB0.out⟩
  case round =>
    obtain ⟨i, hi, rfl, hm, hb⟩ := hrel
    have HM := Lib.hid hm
    have HBR := Lib.hid hb
    clear hm
    by_cases hlt : i < n
    · obtain ⟨x, hx⟩ : ∃ x, xs[i]? = some x := ⟨_, List.getElem?_eq_getElem (by rw [HL.out]; exact hlt)⟩
      have hmx := List.mem_of_getElem? hx
      have hfx := HF.out x hmx
      obtain ⟨ad, rfl, _, k0, k1, k2, k3, k4, k5, k6⟩ := recs_cells (H1.out.below hb).1 i x hx
      have HSN := Lib.hid (fo_snoc hx)
      have HQ := Lib.hid (fun W h => fput_any x w.heap.size i (fo Rw.k Rw.t (xs.take i)) (by omega) hfx W h)
      obtain ⟨⟨k, t, u, o, m, g⟩, A4, n4, c4, l4⟩ := x
      simp only at k0 k1 k2 k3 k4 k5 k6
      have HM2 := Lib.hid (HM.out.kept (World.grownBy_alloc wr (.cells #[.int .i64 k, .string (tx t), .int .u64 u, .slice A4 n4 c4, .int .u64 o, .int .u64 m, .string (tx g)] 36) none) (by simp))
      have HB2 := Lib.hid (hb.alloc hb.size (.cells #[.int .i64 k, .string (tx t), .int .u64 u, .slice A4 n4 c4, .int .u64 o, .int .u64 m, .string (tx g)] 36))
      unfold Rw.val rcv rsv at HQ
      simp only at HQ
      have hi0 : (0 : Int) ≤ (i : Int) := by omega
      have hi1 : (i : Int) < (n : Int) := by omega
      clear hx hmx hfx hb
      go_wp2_with (go_at_call 25; refine (HQ.out _ HM2.out).mono ?_; rintro e w3 ⟨rfl, hm3, hg3⟩; have HM3 := Lib.hid hm3; have HB3 := Lib.hid (HB2.out.grown hg3 HB2.out.size (fun j hj => by cases hj; exact Nat.le_refl _)); clear hm3 hg3)
      exact ⟨⟨i + 1, by omega, by go_num, by rw [HSN.out]; exact HM3.out, HB3.out⟩, by simp [intOf]; omega⟩
    · obtain rfl : i = n := by omega
      rw [List.take_of_length_le (by rw [HL.out]; omega)] at HM
      clear hb
      go_wp2
      go_ret
      exact ⟨rfl, HM.out, HBR.out⟩

end Go.Proofs.Ytbaokcigfgfoaaa
