/- The example of layer 22. -/
import Derived.Test.YtacjiojfjkonkaaWrb
namespace Go.Proofs.Ytacjiojfjkonkaa
open Go.RowKit Go.Sort

theorem at0 (b j : Nat) : (⟨b, 0, none⟩ : Addr).add j = ⟨b, j, none⟩ := by
  unfold Addr.add
  split
  · rename_i h; rw [h]
  · simp
theorem exq_nodes (w : World) : Nodes ((w.alloc (.cells #[.string { data := #[97] }] 9)).alloc (.cells #[.string { data := #[98] }, .bool false, .int .u64 1, .slice (some ⟨w.heap.size, 0, none⟩) 1 1, .string { data := #[97] }, .bool true, .int .u64 0, .slice none 0 0] 37)) ((w.alloc (.cells #[.string { data := #[97] }] 9)).alloc (.cells #[.string { data := #[98] }, .bool false, .int .u64 1, .slice (some ⟨w.heap.size, 0, none⟩) 1 1, .string { data := #[97] }, .bool true, .int .u64 0, .slice none 0 0] 37)).heap.size (some ⟨w.heap.size + 1, 0, none⟩) 2 (exq w.heap.size) := by
  obtain ⟨h1, h2, h3⟩ := two_new w (.cells #[.string { data := #[97] }] 9) (.cells #[.string { data := #[98] }, .bool false, .int .u64 1, .slice (some ⟨w.heap.size, 0, none⟩) 1 1, .string { data := #[97] }, .bool true, .int .u64 0, .slice none 0 0] 37)
  refine ⟨⟨rfl, fun _ => ⟨_, rfl, by rw [h3]; show w.heap.size + 1 < _; omega, fun j u hu => ?_⟩⟩, fun x hx => ?_⟩
  · rw [at0]
    exact at_cell h2 ((List.getElem?_toArray ..).trans hu)
  · simp only [exq, List.mem_cons, List.not_mem_nil, or_false] at hx
    rcases hx with rfl | rfl
    · exact ((reads_one_row w 9 (.string { data := #[97] })).alloc (by simp) (.cells #[.string { data := #[98] }, .bool false, .int .u64 1, .slice (some ⟨w.heap.size, 0, none⟩) 1 1, .string { data := #[97] }, .bool true, .int .u64 0, .slice none 0 0] 37)).more (by rw [h3]; omega)
    · exact Reads.none_

set_option maxRecDepth 100000 in
set_option maxHeartbeats 2000000 in
theorem qfixed_any (w : World) : Calls Try.prog 8 #[] w fun e w' => e = .returned (.bool true) ∧ Below w.heap.size w w' := by
  have hsz : ((w.alloc (.cells #[.string { data := #[97] }] 9)).alloc (.cells #[.string { data := #[98] }, .bool false, .int .u64 1, .slice (some ⟨w.heap.size, 0, none⟩) 1 1, .string { data := #[97] }, .bool true, .int .u64 0, .slice none 0 0] 37)).heap.size = w.heap.size + 1 + 1 := by simp
  have hal : Below ((w.alloc (.cells #[.string { data := #[97] }] 9)).alloc (.cells #[.string { data := #[98] }, .bool false, .int .u64 1, .slice (some ⟨w.heap.size, 0, none⟩) 1 1, .string { data := #[97] }, .bool true, .int .u64 0, .slice none 0 0] 37)).heap.size ((w.alloc (.cells #[.string { data := #[97] }] 9)).alloc (.cells #[.string { data := #[98] }, .bool false, .int .u64 1, .slice (some ⟨w.heap.size, 0, none⟩) 1 1, .string { data := #[97] }, .bool true, .int .u64 0, .slice none 0 0] 37)) (((w.alloc (.cells #[.string { data := #[97] }] 9)).alloc (.cells #[.string { data := #[98] }, .bool false, .int .u64 1, .slice (some ⟨w.heap.size, 0, none⟩) 1 1, .string { data := #[97] }, .bool true, .int .u64 0, .slice none 0 0] 37)).alloc (.cells #[.string { data := #[97] }, .bool false, .int .u64 5] 44)) := (Below.refl _ _).alloc (Nat.le_refl _) (.cells #[.string { data := #[97] }, .bool false, .int .u64 5] 44)
  have HB3 := Lib.hid ((((Below.refl w.heap.size w).alloc (Nat.le_refl _) (.cells #[.string { data := #[97] }] 9)).alloc (by simp) (.cells #[.string { data := #[98] }, .bool false, .int .u64 1, .slice (some ⟨w.heap.size, 0, none⟩) 1 1, .string { data := #[97] }, .bool true, .int .u64 0, .slice none 0 0] 37)).alloc (by simp; omega) (.cells #[.string { data := #[97] }, .bool false, .int .u64 5] 44))
  have hst : Steps (((w.alloc (.cells #[.string { data := #[97] }] 9)).alloc (.cells #[.string { data := #[98] }, .bool false, .int .u64 1, .slice (some ⟨w.heap.size, 0, none⟩) 1 1, .string { data := #[97] }, .bool true, .int .u64 0, .slice none 0 0] 37)).alloc (.cells #[.string { data := #[97] }, .bool false, .int .u64 5] 44)) (((w.alloc (.cells #[.string { data := #[97] }] 9)).alloc (.cells #[.string { data := #[98] }, .bool false, .int .u64 1, .slice (some ⟨w.heap.size, 0, none⟩) 1 1, .string { data := #[97] }, .bool true, .int .u64 0, .slice none 0 0] 37)).alloc (.cells #[.string { data := #[97] }, .bool false, .int .u64 5] 44)).heap.size (some ⟨w.heap.size + 1 + 1, 0, none⟩) 1 exg := by
    have := (reads_step ((w.alloc (.cells #[.string { data := #[97] }] 9)).alloc (.cells #[.string { data := #[98] }, .bool false, .int .u64 1, .slice (some ⟨w.heap.size, 0, none⟩) 1 1, .string { data := #[97] }, .bool true, .int .u64 0, .slice none 0 0] 37)) ⟨[97], false, 5#64⟩).more (show ((w.alloc (.cells #[.string { data := #[97] }] 9)).alloc (.cells #[.string { data := #[98] }, .bool false, .int .u64 1, .slice (some ⟨w.heap.size, 0, none⟩) 1 1, .string { data := #[97] }, .bool true, .int .u64 0, .slice none 0 0] 37)).heap.size + 1 ≤ (((w.alloc (.cells #[.string { data := #[97] }] 9)).alloc (.cells #[.string { data := #[98] }, .bool false, .int .u64 1, .slice (some ⟨w.heap.size, 0, none⟩) 1 1, .string { data := #[97] }, .bool true, .int .u64 0, .slice none 0 0] 37)).alloc (.cells #[.string { data := #[97] }, .bool false, .int .u64 5] 44)).heap.size by simp)
    rw [hsz] at this
    exact this
  have HCL := Lib.hid (clean_ok (some ⟨w.heap.size + 1, 0, none⟩) 2 2 (exq w.heap.size) (by omega) (exq_ok _) (exq_rule _) (exq_chk _) (some ⟨w.heap.size + 1 + 1, 0, none⟩) 1 1 exg (by omega) (((w.alloc (.cells #[.string { data := #[97] }] 9)).alloc (.cells #[.string { data := #[98] }, .bool false, .int .u64 1, .slice (some ⟨w.heap.size, 0, none⟩) 1 1, .string { data := #[97] }, .bool true, .int .u64 0, .slice none 0 0] 37)).alloc (.cells #[.string { data := #[97] }, .bool false, .int .u64 5] 44)) (((exq_nodes w).below hal).more hal.size) hst)
  rw [exq_clean] at HCL
  clear hsz hal hst
  obtain ⟨z, hz⟩ : ∃ z : Int, qv (foq (dg 1#64) [5#64]) = .int .u64 z := ⟨_, rfl⟩
  have HZ := Lib.hid hz
  clear hz
  go_enter Try.func8, Try.ntmps8
  go_wp2_with fail
  refine HCL.out.mono ?_
  rintro e w5 ⟨⟨A5, c5, rfl, ho5⟩, hb5⟩
  have HR5 : Hid (Steps w5 w5.heap.size A5 2 [⟨[97], false, 5#64⟩, ⟨[98], true, foq (dg 1#64) [5#64]⟩]) := Reads.of_own ho5
  have HB5 := Lib.hid (HB3.out.trans (hb5.mono HB3.out.size))
  have HF := Lib.hid (reffold_any (some ⟨w5.heap.size, 0, none⟩) 1 1 1#64 [5#64] (by omega) _ _ (reads_one_row w5 34 (qv 5#64)))
  rw [HZ.out] at HF
  have hal6 : Below w5.heap.size w5 (w5.alloc (.cells #[qv 5#64] 34)) := (Below.refl _ w5).alloc (Nat.le_refl _) _
  have HA6 := Lib.hid hal6
  have hs : sts [⟨[97], false, 5#64⟩, ⟨[98], true, foq (dg 1#64) [5#64]⟩] = [.string { data := #[97] }, .bool false, .int .u64 5, .string { data := #[98] }, .bool true, .int .u64 z] := by
    show [Value.string (tx [97]), .bool false, qv 5#64, .string (tx [98]), .bool true, qv (foq (dg 1#64) [5#64])] = _
    rw [HZ.out]
    rfl
  have HSM : Hid (∀ (V : World), Below w5.heap.size w5 V → Calls Try.prog 11 #[.slice A5 2 c5, .slice (some ⟨V.heap.size, 0, none⟩) 2 2] (V.alloc (.cells #[.string { data := #[97] }, .bool false, .int .u64 5, .string { data := #[98] }, .bool true, .int .u64 z] 44)) fun e w' => e = .returned (.bool true) ∧ Below V.heap.size V w') := fun V hV => by
    have hV2 : Below V.heap.size V (V.alloc (.cells #[.string { data := #[97] }, .bool false, .int .u64 5, .string { data := #[98] }, .bool true, .int .u64 z] 44)) := (Below.refl _ V).alloc (Nat.le_refl _) _
    refine Calls.mono (ssame_ok A5 2 c5 (some ⟨V.heap.size, 0, none⟩) 2 [⟨[97], false, 5#64⟩, ⟨[98], true, foq (dg 1#64) [5#64]⟩] (by omega) (V.alloc (.cells #[.string { data := #[97] }, .bool false, .int .u64 5, .string { data := #[98] }, .bool true, .int .u64 z] 44)) ((HR5.out.below (hV.trans (hV2.mono hV.size))).more (hV.trans (hV2.mono hV.size)).size) ?_) (fun e w' h => ⟨h.1, hV2.trans (h.2.mono hV2.size)⟩)
    unfold Steps
    rw [hs]
    exact ⟨rfl, fun _ => ⟨_, rfl, by simp, fun j u hu => by rw [at0]; exact at_cell (one_new V _) ((List.getElem?_toArray ..).trans hu)⟩⟩
  clear ho5 hb5 hal6 HCL HB3 hs
  go_wp2_with (first
    | (go_at_call 11; refine (HSM.out w6 HA6.out).mono ?_; rintro e w8 ⟨rfl, hb8⟩; have HB8 := Lib.hid ((HB5.out.trans (HA6.out.mono HB5.out.size)).trans (hb8.mono (HB5.out.trans (HA6.out.mono HB5.out.size)).size)); clear hb8)
    | (go_at_call 13; refine HF.out.mono ?_; rintro e w6 ⟨rfl, hw6⟩; rw [hw6] at HA6; clear hw6))
  go_ret
  exact ⟨rfl, HB8.out⟩

end Go.Proofs.Ytacjiojfjkonkaa
