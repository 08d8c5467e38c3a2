/- Great of records. -/
import Derived.Test.YtbaokcigfgfoaaaTa
import Derived.Test.YtbaokcigfgfoaaaRl2
namespace Go.Proofs.Ytbaokcigfgfoaaa
open Go.RowKit

def smalls (xs : List Rw) : Prop := (∀ x ∈ xs, small x.r x.l) ∧ xs.length ≤ 30

set_option maxRecDepth 100000 in
set_option maxHeartbeats 1000000 in
theorem greats_any (A : Option Addr) (n c : Nat) (xs : List Rw) (hn : n ≤ maxLen) (hf : ∀ x ∈ xs, Fits x.r x.l ∧ x.n ≤ maxLen) (w : World) (h : Recs w w.heap.size A n xs) :
    Calls Try.prog 7 #[.slice A n c] w fun e w' => Tells (¬ smalls xs) e ∧ Below w.heap.size w w' := by
  have HL : Hid (xs.length = n) := h.len
  have H1 := Lib.hid h
  have HF := Lib.hid hf
  unfold maxLen at hn
  clear h hf
  go_enter Try.func7, Try.ntmps7
  go_wp2
  go_loopw [7] (fun idx wr => ∃ i : Nat, i ≤ n ∧ idx = .int .i64 (i : Int) ∧ (∀ x ∈ xs.take i, small x.r x.l) ∧ Below w.heap.size w wr) (fun idx wr => n - (intOf idx).toNat)
  case atStart => exact ⟨0, by omega, rfl, by simp, Below.refl _ _⟩
  case round =>
    obtain ⟨i, hi, rfl, hsm, hb⟩ := hrel
    have HSM := Lib.hid hsm
    have HBR := Lib.hid hb
    clear hsm
    by_cases hlt : i < n
    · obtain ⟨x, hx⟩ : ∃ x, xs[i]? = some x := ⟨_, List.getElem?_eq_getElem (by rw [HL.out]; exact hlt)⟩
      have hm := List.mem_of_getElem? hx
      obtain ⟨hfx, hnx⟩ := HF.out x hm
      have hrx := (H1.out.2 x hm).1
      obtain ⟨ad, rfl, _, k0, k1, k2, k3, k4, k5, k6⟩ := recs_cells (H1.out.below hb).1 i x hx
      have HX : Hid (small x.r x.l → ∀ y ∈ xs.take (i + 1), small y.r y.l) := fun hs y hy => by
        rw [List.take_add_one, hx, List.mem_append] at hy
        rcases hy with hy | hy
        · exact HSM.out y hy
        · simp at hy; subst hy; exact hs
      have HNO : Hid (¬ small x.r x.l → ¬ smalls xs) := fun hs h => hs (h.1 x hm)
      obtain ⟨⟨k, t, u, o, m, g⟩, A4, n4, c4, l4⟩ := x
      simp only at k0 k1 k2 k3 k4 k5 k6 hfx hnx hrx
      have HRX := Lib.hid hrx
      have HFX := Lib.hid hfx
      have HNX := Lib.hid hnx
      have hi0 : (0 : Int) ≤ (i : Int) := by omega
      have hi1 : (i : Int) < (n : Int) := by omega
      have HB2 := Lib.hid (hb.alloc hb.size (.cells #[.int .i64 k, .string (tx t), .int .u64 u, .slice A4 n4 c4, .int .u64 o, .int .u64 m, .string (tx g)] 36))
      have HS2 : Hid (wr.heap.size ≤ (wr.alloc (.cells #[.int .i64 k, .string (tx t), .int .u64 u, .slice A4 n4 c4, .int .u64 o, .int .u64 m, .string (tx g)] 36)).heap.size) := by show _ ≤ _; simp
      clear hx hm hfx hnx hrx hb
      by_cases hs : small ⟨k, t, u, o, m, g⟩ l4
      · have HS := Lib.hid hs
        go_wp2_with (go_at_call 18; refine (great_says ⟨k, t, u, o, m, g⟩ A4 n4 c4 l4 _ HNX.out HFX.out.2.2 HFX.out.1 HFX.out.2.1 ((HRX.out.below HB2.out).more HB2.out.size)).mono ?_; rintro e w3 ⟨he, hb3⟩; obtain rfl := he.no (fun h => h HS.out); have HB3 := Lib.hid (HB2.out.trans (hb3.mono HB2.out.size)); clear hb3)
        exact ⟨⟨i + 1, by omega, by go_num, HX.out HS.out, HB3.out⟩, by simp [intOf]; omega⟩
      · have HS := Lib.hid hs
        go_wp2_with (go_at_call 18; refine (great_says ⟨k, t, u, o, m, g⟩ A4 n4 c4 l4 _ HNX.out HFX.out.2.2 HFX.out.1 HFX.out.2.1 ((HRX.out.below HB2.out).more HB2.out.size)).mono ?_; rintro e w3 ⟨he, hb3⟩; obtain rfl := he.yes HS.out; have HB3 := Lib.hid (HB2.out.trans (hb3.mono HB2.out.size)); clear hb3)
        go_ret
        exact ⟨tells_true (HNO.out HS.out), HB3.out⟩
    · obtain rfl : i = n := by omega
      rw [List.take_of_length_le (by rw [HL.out]; omega)] at HSM
      clear hb
      by_cases h30 : i ≤ 30
      · have HQ : Hid (smalls xs) := ⟨HSM.out, by rw [HL.out]; exact h30⟩
        go_wp2
        go_ret
        exact ⟨by first | exact tells_false (fun h => h HQ.out) | (refine (show ∀ {b : Bool}, b = false → Tells (¬ smalls xs) (.returned (.bool b)) from fun h => h ▸ tells_false (fun h => h HQ.out)) ?_; simp; omega), HBR.out⟩
      · have HQ : Hid (¬ smalls xs) := fun h => h30 (by have := h.2; rw [HL.out] at this; exact this)
        have END : Hid (∀ b : Bool, b = true → Tells (¬ smalls xs) (.returned (.bool b))) := fun b h => h ▸ tells_true HQ.out
        go_wp2
        go_ret
        exact ⟨END.out _ (by first | rfl | (simp; omega)), HBR.out⟩

end Go.Proofs.Ytbaokcigfgfoaaa
