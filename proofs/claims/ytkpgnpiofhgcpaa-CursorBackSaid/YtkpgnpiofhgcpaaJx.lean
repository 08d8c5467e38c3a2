/- The walk of taken: numbers that were laid are taken as they were. -/
import Derived.Test.YtkpgnpiofhgcpaaJl
import Derived.Test.YtkpgnpiofhgcpaaJw
namespace Go.Proofs.Ytkpgnpiofhgcpaa
open Go.RowKit

theorem own_one (w : World) (e : TypeId) (u : Value) : (w.alloc (.cells #[u] e)).ownsRow w.heap.size e 1 (.slice (some ⟨w.heap.size, 0, none⟩) 1 1) 1 [u] :=
  ⟨rfl, .inr ⟨w.heap.size, 1, #[u], rfl, Nat.le_refl _, by show (w.heap.push _)[w.heap.size]? = _; simp, Nat.le_refl _, by unfold maxLen; omega, rfl, rfl⟩⟩

theorem taken_info : (Try.prog.info? 5).map (fun i => (i.zero, i.size, i.bytes)) = some (some (.int .u8 0), 1, 1) := by kernel_rfl

/-- At the head of a round: so many numbers have been laid. -/
def KRel (ns : List Nat) (w : World) (v idx : Value) (wr : World) : Prop :=
  ∃ (i : Nat) (pre : List UInt8), i ≤ ns.length ∧ idx = .int .i64 (i : Int) ∧ Hid (pre = UInt8.ofNat ns.length :: nbs (ns.take i)) ∧ Hid (wr.ownsRow w.heap.size 5 1 v pre.length (pre.map bv)) ∧ Hid (Below w.heap.size w wr)
/-- Within one: what is left of it. -/
def KIRel (tgt : List UInt8) (w : World) (v idx : Value) (wr : World) : Prop :=
  ∃ (m : Nat) (pre : List UInt8), m < top ∧ idx = .int .u64 (m : Int) ∧ Hid (pre ++ vb m = tgt) ∧ Hid (wr.ownsRow w.heap.size 5 1 v pre.length (pre.map bv)) ∧ Hid (Below w.heap.size w wr)

set_option maxRecDepth 100000 in
set_option maxHeartbeats 1600000 in
theorem taken_any (A : Option Addr) (n cap : Nat) (ns : List Nat) (hn : n ≤ 30) (hlt : ∀ x ∈ ns, x < top) (w : World) (hr : Reads w w.heap.size 1 A n (ns.map nv)) :
    Calls Try.prog 20 #[.slice A n cap] w fun e w' => e = .returned (.bool true) ∧ Below w.heap.size w w' := by
  obtain ⟨i0, hi0, hz0, hz1, hz2⟩ := info_parts taken_info
  have hl : ns.length = n := by have := hr.1; simpa using this
  have HR := Lib.hid hr
  have HLT := Lib.hid hlt
  have HL := Lib.hid hl
  have hk0 : IntKind.u8.wrap (n : Int) = (n : Int) := by rw [IntKind.wrap_u8']; omega
  have hown0 : (w.alloc (.cells #[.int .u8 (n : Int)] 5)).ownsRow w.heap.size 5 1 (.slice (some ⟨w.heap.size, 0, none⟩) 1 1) 1 ([UInt8.ofNat n].map bv) := by
    have := own_one w 5 (.int .u8 (n : Int))
    rw [← bv_ofNat (show n < 256 by omega)] at this ⊢
    exact this
  have hb0 : Below w.heap.size w (w.alloc (.cells #[.int .u8 (n : Int)] 5)) := (Below.refl _ w).alloc (Nat.le_refl _) _
  have HO0 := Lib.hid hown0
  have HB0 := Lib.hid hb0
  have hnl : (nbs ns).length ≤ 300 := by have := nbs_len ns hlt; omega
  have HNL := Lib.hid hnl
  clear hr hlt hl hown0 hb0 hnl
  go_enter Try.func20, Try.ntmps20
  go_wp2
  clear hk0
  go_loopw [3, 13] (fun v idx wr => KRel ns w v idx wr) (fun _ idx _ => n - (intOf idx).toNat)
  case atStart => exact ⟨0, [UInt8.ofNat n], by omega, rfl, by rw [HL.out]; rfl, HO0.out, HB0.out⟩
  case round =>
    obtain ⟨i, pre, hi, rfl, HPRE, HOW, HBR⟩ := hrel
    rw [HL.out] at hi
    by_cases hlt : i < n
    · obtain ⟨ad, u, rfl, _, hx, hcell⟩ := (HR.out.below HBR.out).at_ hlt
      obtain ⟨x, rfl, hxi⟩ := nv_at hx
      have hxt := HLT.out x (List.mem_of_getElem? hxi)
      obtain ⟨tgt, htgt⟩ : ∃ tgt, tgt = UInt8.ofNat ns.length :: nbs (ns.take (i + 1)) := ⟨_, rfl⟩
      have hpt : pre ++ vb x = tgt := by rw [htgt, HPRE.out, nbs_succ hxi]; rfl
      have htl : tgt.length ≤ 301 := by
        have h1 : (nbs (ns.take (i + 1))).length ≤ (nbs ns).length := by
          have h2 := nbs_append (ns.take (i + 1)) (ns.drop (i + 1))
          rw [List.take_append_drop] at h2
          rw [h2, List.length_append]; omega
        have h3 := HNL.out
        rw [htgt, List.length_cons]; omega
      have HT := Lib.hid htgt
      have HPT := Lib.hid hpt
      have HTL := Lib.hid htl
      have HXT := Lib.hid hxt
      clear hx hxi htgt hpt htl hxt
      go_wp2
      go_loopw [3, 5] (fun v idx wr => KIRel tgt w v idx wr) (fun _ idx _ => (intOf idx).toNat)
      case atStart => exact ⟨x, pre, HXT.out, rfl, HPT.out, HOW.out, HBR.out⟩
      case round =>
        obtain ⟨m, pre2, hm, rfl, HP2, HO2, HB2⟩ := hrel
        clear hcell
        have hpl : pre2.length + 1 ≤ 301 := by
          have h1 := HTL.out
          have h2 := vb_pos m
          rw [← HP2.out, List.length_append] at h1
          omega
        by_cases h128 : 128 ≤ m
        · obtain ⟨r, hrr⟩ : ∃ r, r = m % 128 := ⟨_, rfl⟩
          obtain ⟨q, hq⟩ : ∃ q, q = m / 128 := ⟨_, rfl⟩
          have k0 : (m : Int) % 128 = (r : Int) := by omega
          have k1 : IntKind.u8.wrap (r : Int) = (r : Int) := by rw [IntKind.wrap_u8']; omega
          have k2 : IntKind.u8.wrap ((r : Int) + 128) = ((r + 128 : Nat) : Int) := by rw [IntKind.wrap_u8']; omega
          have k3 : (m : Int) / 128 = (q : Int) := by omega
          have k4 : IntKind.u64.wrap (q : Int) = (q : Int) := by rw [IntKind.wrap_u64]; unfold top at hm; omega
          have hbv : bv (UInt8.ofNat (r + 128)) = .int .u8 ((r + 128 : Nat) : Int) := bv_ofNat (by omega)
          have hp3 : (pre2 ++ [UInt8.ofNat (r + 128)]) ++ vb q = tgt := by
            rw [← HP2.out, vb_ge h128, hrr, hq]; simp
          have hqm : q < m := by omega
          obtain ⟨y, hy⟩ : ∃ y, y = r + 128 := ⟨_, rfl⟩
          rw [← hy] at k2 hbv hp3
          have HBV := Lib.hid hbv
          have HP3 := Lib.hid hp3
          have hqt : q < top := by unfold top at *; omega
          clear hrr hq hbv hp3 hy
          go_wp2_with (at_builtin; refine wpList_append_reads _ rfl (.tmp 21) (.tmp 26) 22 rfl w.heap.size 5 i0 (.int .u8 0) 1 Try.underlying22 hi0 hz0 hz1 hz2 rfl _ pre2.length _ rfl (own_below HO2.out ((Below.refl _ wr).alloc (Nat.le_refl _) _)) (some ⟨wr.heap.size, 0, none⟩) 1 1 (wr.heap.size + 1) [.int .u8 (y : Int)] rfl (by intro h; cases h) (reads_val wr 5 (.int .u8 (y : Int))) (by intro u hu; simp at hu; subst hu; rfl) (by unfold maxLen; omega) (by omega) (by have := HB2.out.size; simp; omega) ?_; intro v4 w4 ho4 hg4)
          have hb4 : Below w.heap.size w w4 := (HB2.out.alloc HB2.out.size (.cells #[.int .u8 (y : Int)] 5)).grown hg4 (by have := HB2.out.size; simp; omega) (own_block HO2.out)
          exact ⟨⟨q, pre2 ++ [UInt8.ofNat y], hqt, by go_num, HP3.out, by rw [← HBV.out] at ho4; simpa [Hid] using ho4, hb4⟩, by simp [intOf]; omega⟩
        · have h128' : m < 128 := by omega
          have k0 : IntKind.u8.wrap (m : Int) = (m : Int) := by rw [IntKind.wrap_u8']; omega
          have hbv : bv (UInt8.ofNat m) = .int .u8 (m : Int) := bv_ofNat (by omega)
          have hp3 : pre2 ++ [UInt8.ofNat m] = tgt := by rw [← HP2.out, vb_lt h128']
          have HBV := Lib.hid hbv
          have HP3 := Lib.hid hp3
          clear hbv hp3
          go_wp2_with (at_builtin; refine wpList_append_reads _ rfl (.tmp 28) (.tmp 31) 22 rfl w.heap.size 5 i0 (.int .u8 0) 1 Try.underlying22 hi0 hz0 hz1 hz2 rfl _ pre2.length _ rfl (own_below HO2.out ((Below.refl _ wr).alloc (Nat.le_refl _) _)) (some ⟨wr.heap.size, 0, none⟩) 1 1 (wr.heap.size + 1) [.int .u8 (m : Int)] rfl (by intro h; cases h) (reads_val wr 5 (.int .u8 (m : Int))) (by intro u hu; simp at hu; subst hu; rfl) (by unfold maxLen; omega) (by omega) (by have := HB2.out.size; simp; omega) ?_; intro v4 w4 ho4 hg4)
          have hb4 : Below w.heap.size w w4 := (HB2.out.alloc HB2.out.size (.cells #[.int .u8 (m : Int)] 5)).grown hg4 (by have := HB2.out.size; simp; omega) (own_block HO2.out)
          exact ⟨⟨i + 1, tgt, by rw [HL.out]; omega, by go_num, HT.out, by rw [← HP3.out]; rw [← HBV.out] at ho4; simpa [Hid] using ho4, hb4⟩, by simp [intOf]; omega⟩
    · obtain rfl : i = n := by omega
      have hall : pre = UInt8.ofNat ns.length :: nbs ns := by rw [HPRE.out, List.take_of_length_le (by rw [HL.out]; omega)]
      subst hall
      obtain ⟨A1, c1, rfl, hc1, hr1⟩ := own_reads HOW.out
      have hnl2 : (UInt8.ofNat ns.length :: nbs ns).length ≤ 301 := by have := HNL.out; simp; omega
      have hnew := new_any A1 (UInt8.ofNat ns.length :: nbs ns).length c1 0 (UInt8.ofNat ns.length :: nbs ns) (by omega) wr hr1
      rw [Cu.new, new_zero] at hnew
      have hnums := Cu.nums_laid ns (by rw [HL.out]; exact hn) HLT.out
      generalize (UInt8.ofNat ns.length :: nbs ns) = all at *
      have HNEW := Lib.hid hnew
      have HNUMS := Lib.hid hnums
      clear hnew hnums hnl2 hr1 hc1 hi hlt HPRE HO0 HB0
      go_wp2_with fail
      refine HNEW.out.mono ?_
      rintro e w1 ⟨b, rfl, hbw, hc1, hb1⟩
      have HC1 := Lib.hid hc1
      have HB1 := Lib.hid (HBR.out.trans (hb1.mono HBR.out.size))
      have HBW := Lib.hid (Nat.le_trans HBR.out.size hbw)
      clear hc1 hb1 hbw
      go_wp2_with fail
      have hn2 := numbers_any b b _ 30 (by omega) w1 HC1.out
      rw [HNUMS.out] at hn2
      simp only at hn2
      rw [HL.out] at hn2
      refine Calls.mono hn2 ?_
      clear hn2
      rintro e w2 ⟨v, rfl, hv, hc2, ho2⟩
      obtain ⟨A2, q2, rfl, _, hr2⟩ := own_reads hv
      have HC2 := Lib.hid hc2
      have HB2 := Lib.hid (HB1.out.trans (ho2.below HBW.out HB1.out.size))
      have HR2 := Lib.hid hr2
      clear hc2 ho2 hr2 hv
      go_wp2_with fail
      refine Calls.mono (samenum_any A2 A i q2 cap w2.heap.size w.heap.size ns (by omega) w2 (Nat.le_refl _) HB2.out.size HR2.out (HR.out.below HB2.out)) ?_
      rintro e w3 ⟨rfl, hb3⟩
      have HC3 := Lib.hid (HC2.out.below hb3 HC2.out.lt)
      have HB3 := Lib.hid (HB2.out.trans (hb3.mono HB2.out.size))
      clear hb3
      go_wp2_with fail
      refine Calls.mono (err_any b b _ w3 HC3.out) ?_
      rintro e w4 ⟨rfl, rfl⟩
      go_wp2_with fail
      have hlf := left_any b b _ w3 HC3.out
      simp only [Nat.sub_self] at hlf
      refine Calls.mono hlf ?_
      clear hlf
      rintro e w4 ⟨rfl, hb4⟩
      go_wp2
      go_ret
      exact ⟨rfl, HB3.out.trans (hb4.mono HB3.out.size)⟩

end Go.Proofs.Ytkpgnpiofhgcpaa
