/- The walk of the chapter's example. -/
import Derived.Test.YtkpgnpiofhgcpaaJk
import Derived.Lib.SlBytesConst
namespace Go.Proofs.Ytkpgnpiofhgcpaa
open Go.RowKit

/-- Bytes that were just laid, of whichever mark. -/
theorem reads_laid (W : World) (e : TypeId) (bs : List UInt8) (fz : Nat × Nat) (B : Nat) (hB : W.heap.size < B) : Reads (W.alloc (.cells (bs.map bv).toArray e fz)) B 1 (some ⟨W.heap.size, 0, none⟩) bs.length (bs.map bv) :=
  ⟨by simp, fun _ => ⟨_, rfl, hB, fun j u hu => by
    have h0 : Addr.add ⟨W.heap.size, 0, none⟩ j = ⟨W.heap.size, j, none⟩ := by
      unfold Addr.add
      split
      · rename_i h; rw [h]
      · simp
    rw [h0]
    simp only [World.cell?, World.alloc, Array.getElem?_push_size]
    simpa using hu⟩⟩

theorem ex_new : Cu.new [2, 97, 98, 7] 0 = ⟨[2, 97, 98, 7], 0, 0⟩ := rfl
theorem ex_text : Cu.text ⟨[2, 97, 98, 7], 0, 0⟩ 9 = ([97, 98], ⟨[2, 97, 98, 7], 3, 0⟩) := by rfl
theorem ex_num : Cu.num ⟨[2, 97, 98, 7], 3, 0⟩ = (7, ⟨[2, 97, 98, 7], 4, 0⟩) := by rfl
theorem ex_num2 : Cu.num ⟨[2, 97, 98, 7], 4, 0⟩ = (0, ⟨[2, 97, 98, 7], 4, 2⟩) := by rfl

set_option maxRecDepth 100000 in
set_option maxHeartbeats 400000 in
theorem fixed_any (w : World) : Calls Try.prog 6 #[] w fun e w' => e = .returned (.bool true) ∧ Below w.heap.size w w' := by
  have kc := fun (w : World) (C : Array Value) (n c : Nat) => Lib.run_convert_bytes_const (P := Try.prog) w 22 5 C n c Try.underlying22 Try.underlying5
  have hnew : ∀ (W X : World) (fz : Nat × Nat), X = W.alloc (.cells #[.int .u8 2, .int .u8 97, .int .u8 98, .int .u8 7] 5 fz) → Calls Try.prog 7 #[.slice (some ⟨W.heap.size, 0, none⟩) 4 4, .int .i64 0] X fun e w' => ∃ b, e = .returned (.pointer (some ⟨b, 0, none⟩)) ∧ W.heap.size ≤ b ∧ CurIn w' b b ⟨[2, 97, 98, 7], 0, 0⟩ ∧ Below W.heap.size W w' := fun W X fz hX => by
    have hb : Below W.heap.size W X := by rw [hX]; exact (Below.refl _ W).alloc (Nat.le_refl _) _
    have hs : W.heap.size < X.heap.size := by rw [hX]; simp
    have hr : Reads X X.heap.size 1 (some ⟨W.heap.size, 0, none⟩) 4 ([2, 97, 98, 7].map bv) := by
      have := reads_laid W 5 [2, 97, 98, 7] fz X.heap.size hs
      rw [hX] at this ⊢
      exact this
    refine (new_any (some ⟨W.heap.size, 0, none⟩) 4 4 0 [2, 97, 98, 7] (by omega) X hr).mono ?_
    rintro e w' ⟨b, he, hb1, hc, hbl⟩
    exact ⟨b, he, by omega, hc, hb.trans (hbl.mono hb.size)⟩
  have HNEW := Lib.hid hnew
  clear hnew
  have htl : (tx [97, 98]).toList = [97, 98] := tx_toList _
  go_enter Try.func6, Try.ntmps6
  go_wp2_with fail
  refine (HNEW.out _ _ _ rfl).mono ?_
  rintro e w1 ⟨b, rfl, hbw, hc1, hb1⟩
  have HC1 := Lib.hid hc1
  have HB1 := Lib.hid hb1
  have HBW := Lib.hid hbw
  clear hc1 hb1 hbw
  go_wp2_with fail
  have h2 := text_any b b _ 9 (by omega) w1 HC1.out
  rw [ex_text] at h2
  refine Calls.mono h2 ?_
  clear h2
  rintro e w2 ⟨rfl, hc2, ho2⟩
  have HC2 := Lib.hid hc2
  have HO2 := Lib.hid ho2
  clear hc2 ho2
  go_wp2_with fail
  have h3 := number_any b b _ w2 HC2.out
  rw [ex_num] at h3
  refine Calls.mono h3 ?_
  clear h3
  rintro e w3 ⟨rfl, hc3, ho3⟩
  have HC3 := Lib.hid hc3
  have HO3 := Lib.hid ho3
  clear hc3 ho3
  go_wp2_with fail
  have h4 := number_any b b _ w3 HC3.out
  rw [ex_num2] at h4
  refine Calls.mono h4 ?_
  clear h4
  rintro e w4 ⟨rfl, hc4, ho4⟩
  have HC4 := Lib.hid hc4
  have HO4 := Lib.hid ho4
  clear hc4 ho4
  go_wp2_with fail
  refine Calls.mono (err_any b b _ w4 HC4.out) ?_
  rintro e w5 ⟨rfl, rfl⟩
  go_wp2
  go_ret
  exact ⟨rfl, HB1.out.trans ((((HO2.out.trans HO3.out).trans HO4.out).below HBW.out HB1.out.size))⟩

end Go.Proofs.Ytkpgnpiofhgcpaa
