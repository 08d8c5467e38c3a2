/- The walks of the document's own answers: Put and Get of tephraref01. -/
import Derived.Test.YtoanmbhnhofoiaaDoorG
import Derived.Test.YtoanmbhnhofoiaaDoorS
import Derived.Deep.RegionWith
import Derived.RegionTactic
namespace Go.Proofs.YtoanmbhnhofoiaaDoor
open Go.RowKit Go.Shelf

set_option maxRecDepth 100000 in
set_option maxHeartbeats 400000 in
theorem refput_lt (n : Nat) (h : n < 128) (w : World) :
    Calls Tryd.prog 37 #[.int .u64 (n : Int)] w fun e w' => e = .returned (.string (tx (vb n))) ∧ Below w.heap.size w w' := by
  have hcv : (convert 22 9 (.slice (some ⟨w.heap.size, 0, none⟩) 1 1)).run Tryd.prog (w.alloc (.cells #[.int .u8 (n : Int)] 5)) = .ok (.string (tx [UInt8.ofNat n])) (w.alloc (.cells #[.int .u8 (n : Int)] 5)) := by
    rw [← bv_ofNat (show n < 256 by omega)]
    exact conv_reads Tryd.underlying22 Tryd.underlying5 Tryd.underlying9 (reads_one w 5 _)
  rw [vb_lt h]
  go_enter Tryd.func37, Tryd.ntmps37
  go_wp2
  go_ret
  exact ⟨rfl, (Below.refl _ _).alloc (Nat.le_refl _) _⟩

set_option maxRecDepth 100000 in
set_option maxHeartbeats 400000 in
theorem refput_ge (n : Nat) (h : ¬ n < 128) (hlen : (vb (n / 128)).length ≤ 10) (hw : IntKind.u64.wrap ((n / 128 : Nat) : Int) = ((n / 128 : Nat) : Int)) (ih : ∀ w, Calls Tryd.prog 37 #[.int .u64 ((n / 128 : Nat) : Int)] w fun e w' => e = .returned (.string (tx (vb (n / 128)))) ∧ Below w.heap.size w w') (w : World) :
    Calls Tryd.prog 37 #[.int .u64 (n : Int)] w fun e w' => e = .returned (.string (tx (vb n))) ∧ Below w.heap.size w w' := by
  rw [vb_ge (by omega)]
  obtain ⟨r, hr⟩ : ∃ r, r = n % 128 := ⟨_, rfl⟩
  obtain ⟨q, hq⟩ : ∃ q, q = n / 128 := ⟨_, rfl⟩
  have hr128 : r < 128 := by omega
  have a1 : (n : Int).tmod 128 = (r : Int) := by rw [Int.tmod_eq_emod_of_nonneg (by omega)]; omega
  have a2 : IntKind.u8.wrap (r : Int) = (r : Int) := by rw [IntKind.wrap_u8]; omega
  have a3 : IntKind.u8.wrap ((r : Int) + 128) = (r : Int) + 128 := by rw [IntKind.wrap_u8]; omega
  have a4 : (n : Int) / 128 = (q : Int) := by omega
  rw [← hq] at ih hw hlen ⊢
  rw [← hr]
  have IH := Lib.hid ih
  clear ih
  obtain ⟨x, hx⟩ : ∃ x, x = UInt8.ofNat (r + 128) := ⟨_, rfl⟩
  have hbx : bv x = .int .u8 ((r : Int) + 128) := by rw [hx, bv_ofNat (by omega)]; rfl
  have hone : ∀ W : World, Reads (W.alloc (.cells #[.int .u8 ((r : Int) + 128)] 5)) (W.heap.size + 1) 1 (some ⟨W.heap.size, 0, none⟩) 1 ([x].map bv) := by
    intro W
    rw [← hbx]
    exact reads_one W 5 x
  have HONE := Lib.hid hone
  clear hone
  have hcvA : ∀ W : World, (convert 22 9 (.slice (some ⟨W.heap.size, 0, none⟩) 1 1)).run Tryd.prog (W.alloc (.cells #[.int .u8 ((r : Int) + 128)] 5)) = .ok (.string (tx [x])) (W.alloc (.cells #[.int .u8 ((r : Int) + 128)] 5)) := by
    intro W
    exact conv_reads Tryd.underlying22 Tryd.underlying5 Tryd.underlying9 (HONE.out W)
  have hcvB : ∀ W : World, (convert 22 9 (.slice (some ⟨W.heap.size, 0, none⟩) 1 1)).run Tryd.prog (W.alloc (.cells #[.int .u8 ((r : Int) + 128)] 5)).drew = .ok (.string (tx [x])) (W.alloc (.cells #[.int .u8 ((r : Int) + 128)] 5)).drew := by
    intro W
    exact conv_reads Tryd.underlying22 Tryd.underlying5 Tryd.underlying9 (HONE.out W).drew
  have hadd : ∀ W : World, (Op.stringOp .add (tx [x]) (tx (vb q))).run Tryd.prog W = .ok (.string (tx (x :: vb q))) W := fun W => add_tx W [x] (vb q) (by simp; omega)
  rw [← hx]
  have HBX := Lib.hid hbx
  have HX := Lib.hid hx
  have HR := Lib.hid hr
  have HQ := Lib.hid hq
  clear hbx hx hr hq
  go_enter Tryd.func37, Tryd.ntmps37
  go_wp2
  go_region_with (go_at_call 37; refine (IH.out _).mono ?_; rintro e w' ⟨rfl, hb⟩; first | (have hcvC : (convert 22 9 (.slice (some ⟨w.heap.size, 0, none⟩) 1 1)).run Tryd.prog w' = .ok (.string (tx [x])) w' := conv_reads Tryd.underlying22 Tryd.underlying5 Tryd.underlying9 ((HONE.out w).drew.below (hb.mono (by simp)))) | skip)
  all_goals
    go_wp2
    go_ret
    first
      | exact ⟨rfl, (((Below.refl _ w).alloc (Nat.le_refl _) _).drew).trans (hb.mono (by simp))⟩
      | exact ⟨rfl, ((Below.refl _ w).drew.trans hb).alloc (by have := hb.size; simpa using this) _⟩

theorem refput_pow : ∀ (k n : Nat), n < 128 ^ (k + 1) → n < top → ∀ w : World,
    Calls Tryd.prog 37 #[.int .u64 (n : Int)] w fun e w' => e = .returned (.string (tx (vb n))) ∧ Below w.heap.size w w'
  | 0, n, h, _, w => refput_lt n (by simpa using h) w
  | k + 1, n, h, ht, w => by
    by_cases h1 : n < 128
    · exact refput_lt n h1 w
    · have hq : n / 128 < 128 ^ (k + 1) := by
        rw [Nat.pow_succ] at h
        exact Nat.div_lt_of_lt_mul (by rw [Nat.mul_comm]; exact h)
      have hqt : n / 128 < top := by omega
      exact refput_ge n h1 (vb_len _ hqt) (by rw [IntKind.wrap_u64]; unfold top at hqt; omega) (refput_pow k (n / 128) hq hqt) w

/-- **The document's Put, at every number of 64 bits.** -/
theorem refput_any (n : Nat) (h : n < top) (w : World) : Calls Tryd.prog 37 #[.int .u64 (n : Int)] w fun e w' => e = .returned (.string (tx (vb n))) ∧ Below w.heap.size w w' :=
  refput_pow 9 n (by unfold top at h; have : (128 : Nat) ^ (9 + 1) = 1180591620717411303424 := by decide
                     omega) h w

end Go.Proofs.YtoanmbhnhofoiaaDoor
