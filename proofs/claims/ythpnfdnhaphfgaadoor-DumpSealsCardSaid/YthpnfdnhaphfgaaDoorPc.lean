/- The walk of DumpSeals. -/
import Derived.Test.YthpnfdnhaphfgaaDoorPb
namespace Go.Proofs.YthpnfdnhaphfgaaDoor
open Go.RowKit

theorem tx_same (a b : List UInt8) : ((tx a).toList == (tx b).toList) = decide (a = b) := by
  rw [tx_toList, tx_toList]
  by_cases h : a = b
  · subst h; simp
  · simp [h]

set_option maxHeartbeats 1000000 in
set_option maxRecDepth 100000 in
theorem dseals_any (a b : List UInt8) (w : World) (hl : Laid w) :
    Calls Tryd.prog 5 #[.string (tx a), .string (tx b)] w fun e w' => e = .returned (.bool true) ∧ Below w.heap.size w w' := by
  have HF := Lib.hid (dfixed_any w hl)
  have hsa : (tx a).size = a.length := tx_size a
  have hsb : (tx b).size = b.length := tx_size b
  by_cases hla : 2000 < a.length
  · obtain ⟨n, hn⟩ : ∃ n, n = a.length := ⟨_, rfl⟩
    rw [← hn] at hsa hla
    generalize tx a = s at *
    generalize tx b = t at *
    clear hn hsb hl
    go_enter Tryd.func5, Tryd.ntmps5
    go_wp2_with fail
    refine HF.out.mono ?_
    rintro e w1 ⟨rfl, hb1⟩
    go_wp2
    go_ret
    exact ⟨rfl, hb1⟩
  by_cases hlb : 2000 < b.length
  · obtain ⟨n, hn⟩ : ∃ n, n = a.length := ⟨_, rfl⟩
    obtain ⟨m, hm⟩ : ∃ m, m = b.length := ⟨_, rfl⟩
    rw [← hn] at hsa hla
    rw [← hm] at hsb hlb
    generalize tx a = s at *
    generalize tx b = t at *
    clear hn hm hl
    go_enter Tryd.func5, Tryd.ntmps5
    go_wp2_with fail
    refine HF.out.mono ?_
    rintro e w1 ⟨rfl, hb1⟩
    go_wp2
    go_ret
    exact ⟨rfl, hb1⟩
  have HL := Lib.hid hl
  have HA := Lib.hid (fun W h => sealed_any a (by omega) W h)
  have HB := Lib.hid (fun W h => sealed_any b (by omega) W h)
  have HRA := Lib.hid (fun W => rsealed_any a (by omega) W)
  have d1 : ((tx a).toList == (tx b).toList) = decide (a = b) := tx_same a b
  have d2 : ((tx (seald a)).toList == (tx (seald b)).toList) = decide (a = b) := by
    rw [tx_same]
    exact decide_eq_decide.2 ⟨seald_one, fun h => by rw [h]⟩
  obtain ⟨n, hn⟩ : ∃ n, n = a.length := ⟨_, rfl⟩
  obtain ⟨m, hm⟩ : ∃ m, m = b.length := ⟨_, rfl⟩
  rw [← hn] at hsa hla
  rw [← hm] at hsb hlb
  obtain ⟨q, hq⟩ : ∃ q, q = decide (a = b) := ⟨_, rfl⟩
  rw [← hq] at d1 d2
  generalize tx (seald a) = sa at *
  generalize tx (seald b) = sb at *
  generalize tx a = s at *
  generalize tx b = t at *
  clear hn hm hl hq
  go_enter Tryd.func5, Tryd.ntmps5
  go_wp2_with fail
  refine HF.out.mono ?_
  rintro e w1 ⟨rfl, b1⟩
  have B1 := Lib.hid b1
  clear b1
  go_wp2_with fail
  refine (HA.out _ (HL.out.below B1.out)).mono ?_
  rintro e w2 ⟨rfl, b2⟩
  have B2 := Lib.hid (B1.out.trans (b2.mono B1.out.size))
  clear b2
  go_wp2_with fail
  refine (HRA.out _).mono ?_
  rintro e w3 ⟨rfl, rfl⟩
  go_wp2_with fail
  refine (HA.out _ (HL.out.below B2.out)).mono ?_
  rintro e w4 ⟨rfl, b4⟩
  have B4 := Lib.hid (B2.out.trans (b4.mono B2.out.size))
  clear b4
  go_wp2_with fail
  refine (HB.out _ (HL.out.below B4.out)).mono ?_
  rintro e w5 ⟨rfl, b5⟩
  have B5 := B4.out.trans (b5.mono B4.out.size)
  clear b5
  cases q with
  | true =>
    go_wp2
    go_ret
    exact ⟨rfl, B5⟩
  | false =>
    go_wp2
    go_ret
    exact ⟨rfl, B5⟩

end Go.Proofs.YthpnfdnhaphfgaaDoor
