/- Great: is a record more than is gone through? And the example. -/
import Derived.Test.YtgioknppnfencaaDoorRk0
namespace Go.Proofs.YtgioknppnfencaaDoor
open Go.RowKit

def small (r : Rc) (l : List Dp) : Prop := (∀ d ∈ l, d.name.length ≤ 300) ∧ l.length ≤ 60 ∧ r.target.length ≤ 300 ∧ r.tag.length ≤ 300

set_option maxRecDepth 100000 in
set_option maxHeartbeats 1000000 in
theorem great_any (r : Rc) (A : Option Addr) (n c : Nat) (l : List Dp) (w : World) (hn : n ≤ maxLen) (hfit : ∀ d ∈ l, d.name.length ≤ maxLen) (ht : r.target.length ≤ maxLen) (hg : r.tag.length ≤ maxLen) (h : Reads w w.heap.size 3 A n (dps l)) :
    Calls Tryd.prog 11 #[rcv r A n c] w fun e w' => ∃ q : Bool, (q = false → small r l) ∧ e = .returned (.bool q) ∧ Below w.heap.size w w' := by
  have HL : Hid (l.length = n) := by have := h.1; rw [dps_len] at this; show _ = _; omega
  have H1 := Lib.hid h
  have HF := Lib.hid hfit
  have hm : Hid (maxLen = 9223372036854775807 ∨ True) := .inr trivial
  have hbx := Lib.hid ((Below.refl w.heap.size w).alloc (Nat.le_refl _) (.cells #[.int .i64 r.kind, .string (tx r.target), .int .u64 r.rule, .slice A n c, .int .u64 r.out, .int .u64 r.time, .string (tx r.tag)] 35))
  have hnb : Hid ((w.alloc (.cells #[.int .i64 r.kind, .string (tx r.target), .int .u64 r.rule, .slice A n c, .int .u64 r.out, .int .u64 r.time, .string (tx r.tag)] 35)).heap[w.heap.size]? = some (.cells #[.int .i64 r.kind, .string (tx r.target), .int .u64 r.rule, .slice A n c, .int .u64 r.out, .int .u64 r.time, .string (tx r.tag)] 35 (0, 0))) := by show (w.heap.push _)[w.heap.size]? = _; exact Array.getElem?_push_size
  unfold rcv rsv
  have hs1 := tx_size0 r.target
  have hs2 := tx_size0 r.tag
  unfold maxLen at hn ht hg
  clear h hfit
  go_enter Tryd.func11, Tryd.ntmps11
  go_wp2
  go_loopw [8] (fun idx wr => ∃ i : Nat, i ≤ n ∧ idx = .int .i64 (i : Int) ∧ (∀ d ∈ l.take i, d.name.length ≤ 300) ∧ Below w.heap.size w wr ∧ wr.heap[w.heap.size]? = some (.cells #[.int .i64 r.kind, .string (tx r.target), .int .u64 r.rule, .slice A n c, .int .u64 r.out, .int .u64 r.time, .string (tx r.tag)] 35 (0, 0))) (fun idx wr => n - (intOf idx).toNat)
  case atStart => exact ⟨0, by omega, rfl, by simp, hbx.out, hnb.out⟩
  case round =>
    obtain ⟨i, hi, rfl, hsm, hb, hbl⟩ := hrel
    have HSM := Lib.hid hsm
    have q1 := at_cell (i := 1) hbl rfl
    have q3 := at_cell (i := 3) hbl rfl
    have q6 := at_cell (i := 6) hbl rfl
    clear hsm
    by_cases hlt : i < n
    · obtain ⟨x, hx⟩ : ∃ x, l[i]? = some x := ⟨_, List.getElem?_eq_getElem (by rw [HL.out]; exact hlt)⟩
      obtain ⟨ad, rfl, _, hcx⟩ := (H1.out.below hb).2 (by omega)
      obtain ⟨x0, x1, x2⟩ := dps_at l i x hx
      have k0 := hcx _ _ x0
      have k1 := hcx _ _ x1
      have k2 := hcx _ _ x2
      rw [add_one] at k1
      rw [add_two] at k2
      have hxl := HF.out x (List.mem_of_getElem? hx)
      obtain ⟨xn, xh, xo⟩ := x
      simp only at k0 k1 k2 hxl
      have hs3 := tx_size0 xn
      obtain ⟨m, hm⟩ : ∃ m, m = xn.length := ⟨_, rfl⟩
      rw [← hm] at hs3 hxl
      unfold rsv at k0
      unfold maxLen at hxl
      have HX : Hid (m ≤ 300 → ∀ d ∈ l.take (i + 1), d.name.length ≤ 300) := fun hle d hd => by
        rw [List.take_add_one, hx, List.mem_append] at hd
        rcases hd with hd | hd
        · exact HSM.out d hd
        · simp at hd; subst hd; exact hm ▸ hle
      have HBR := Lib.hid hb
      have HBL := Lib.hid hbl
      have hi0 : (0 : Int) ≤ (i : Int) := by omega
      have hi1 : (i : Int) < (n : Int) := by omega
      have HBN := Lib.hid (hb.alloc hb.size (.cells #[.string (tx xn), .int .u64 xh, .bool xo] 56))
      have HBLN := Lib.hid ((Below.heap_alloc wr (.cells #[.string (tx xn), .int .u64 xh, .bool xo] 56) w.heap.size (by
        rcases Nat.lt_or_ge w.heap.size wr.heap.size with h | h
        · exact h
        · rw [Array.getElem?_eq_none h] at hbl; cases hbl)).trans hbl)
      clear hcx x0 x1 x2 hx hb hbl hm
      by_cases h300 : m ≤ 300
      · have hd1 : decide ((m : Int) > 300) = false := by rw [decide_eq_false_iff_not]; omega
        go_wp2
        exact ⟨⟨i + 1, by omega, by go_num, HX.out h300, HBN.out, HBLN.out⟩, by simp [intOf]; omega⟩
      · have hd1 : decide ((m : Int) > 300) = true := by rw [decide_eq_true_iff]; omega
        go_wp2
        go_ret
        exact ⟨true, by simp, rfl, HBN.out⟩
    · obtain rfl : i = n := by omega
      have HBR := Lib.hid hb
      rw [List.take_of_length_le (by rw [HL.out]; omega)] at HSM
      clear hb hbl
      by_cases hA : i ≤ 60 ∧ r.target.length ≤ 300 ∧ r.tag.length ≤ 300
      · have HQ : Hid (small r l) := ⟨HSM.out, by rw [HL.out]; exact hA.1, hA.2⟩
        obtain ⟨g1, g2, g3⟩ := hA
        go_wp2
        go_ret
        exact ⟨false, fun _ => HQ.out, by first | rfl | (congr 2; simp; omega), HBR.out⟩
      · by_cases g1 : i ≤ 60
        · by_cases g2 : r.target.length ≤ 300
          · have g3 : 300 < r.tag.length := by omega
            clear hA
            go_wp2
            go_ret
            first | exact .inr ⟨by first | rfl | (congr 2; simp; omega), HBR.out⟩ | exact ⟨true, by simp, by first | rfl | (congr 2; simp; omega), HBR.out⟩
          · clear hA
            go_wp2
            go_ret
            first | exact .inr ⟨by first | rfl | (congr 2; simp; omega), HBR.out⟩ | exact ⟨true, by simp, by first | rfl | (congr 2; simp; omega), HBR.out⟩
        · clear hA
          go_wp2
          go_ret
          first | exact .inr ⟨by first | rfl | (congr 2; simp; omega), HBR.out⟩ | exact ⟨true, by simp, by first | rfl | (congr 2; simp; omega), HBR.out⟩

end Go.Proofs.YtgioknppnfencaaDoor
