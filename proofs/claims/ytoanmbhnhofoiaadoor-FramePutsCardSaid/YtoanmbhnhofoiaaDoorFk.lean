/- The walk of FramePuts: it returns true at any bytes ahead and any payload. -/
import Derived.Test.YtoanmbhnhofoiaaDoorFe
import Derived.Test.YtoanmbhnhofoiaaDoorFd
namespace Go.Proofs.YtoanmbhnhofoiaaDoor
open Go.RowKit Go.Shelf

set_option maxRecDepth 100000 in
set_option maxHeartbeats 400000 in
theorem fputs_long (A L : Option Addr) (n c m d : Nat) (h : 2500 < m ∨ 100 < n) (w : World) (hl : Laid w) :
    Calls Tryd.prog 4 #[.slice A n c, .slice L m d] w fun e w' => e = .returned (.bool true) ∧ Below w.heap.size w w' := by
  have HF := Lib.hid (frame_fixed w hl)
  clear hl
  by_cases h1 : 2500 < m
  · clear h
    go_enter Tryd.func4, Tryd.ntmps4
    go_wp2_with (go_at_call 8; refine HF.out.mono ?_; rintro e w3 ⟨rfl, hb3⟩)
    go_ret
    exact ⟨rfl, hb3⟩
  · have h2 : 100 < n := by omega
    clear h
    go_enter Tryd.func4, Tryd.ntmps4
    go_wp2_with (go_at_call 8; refine HF.out.mono ?_; rintro e w3 ⟨rfl, hb3⟩)
    go_ret
    exact ⟨rfl, hb3⟩

set_option maxRecDepth 100000 in
set_option maxHeartbeats 1000000 in
theorem fputs_bad (A L : Option Addr) (n c m d : Nat) (p : List UInt8) (hm : m ≤ 2500) (hn : n ≤ 100) (h : m = 0 ∨ 2048 < m) (w : World) (hl : Laid w) (hq : Reads w w.heap.size 1 L m (p.map bv)) :
    Calls Tryd.prog 4 #[.slice A n c, .slice L m d] w fun e w' => e = .returned (.bool true) ∧ Below w.heap.size w w' := by
  have hml : p.length = m := by have := hq.1; simpa using this
  have HF := Lib.hid (frame_fixed w hl)
  have HP := Lib.hid (fput_bad A L n c m d h w)
  have HR := Lib.hid (rput_bad p (by rcases h with h | h; exact .inl (List.eq_nil_of_length_eq_zero (by omega)); exact .inr (by omega)) (by omega) w)
  have hem : (tx ([] : List UInt8)) = ⟨#[]⟩ := rfl
  rw [hem] at HR
  have hcv : (convert 22 9 (.slice L m d)).run Tryd.prog w = .ok (.string (tx p)) w := conv_reads Tryd.underlying22 Tryd.underlying5 Tryd.underlying9 hq
  have n1 : decide (2500 < (m : Int)) = false := by rw [decide_eq_false_iff_not]; omega
  have n2 : decide (100 < (n : Int)) = false := by rw [decide_eq_false_iff_not]; omega
  generalize tx p = s at HR hcv
  clear hl hq hml h hem
  go_enter Tryd.func4, Tryd.ntmps4
  go_wp2_with (first
    | (go_at_call 13; refine HP.out.mono ?_; rintro e w3 ⟨rfl, rfl⟩)
    | (go_at_call 14; refine HR.out.mono ?_; rintro e w3 ⟨rfl, rfl⟩)
    | (go_at_call 8; refine HF.out.mono ?_; rintro e w3 ⟨rfl, hb3⟩))
  go_ret
  exact ⟨rfl, hb3⟩

set_option maxRecDepth 100000 in
set_option maxHeartbeats 1000000 in
theorem fputs_ok (A L : Option Addr) (n c m d : Nat) (bs p : List UInt8) (hn : n ≤ 100) (hp : pay p) (hc : n ≤ c) (hA : A = none → c = 0) (w : World) (hl : Laid w)
    (hr : Reads w w.heap.size 1 A n (bs.map bv)) (hq : Reads w w.heap.size 1 L m (p.map bv)) :
    Calls Tryd.prog 4 #[.slice A n c, .slice L m d] w fun e w' => e = .returned (.bool true) ∧ Below w.heap.size w w' := by
  have hml : p.length = m := by have := hq.1; simpa using this
  have hbn : bs.length = n := by have := hr.1; simpa using this
  have hm1 := hp.2
  have HP := Lib.hid (fput_any A L n c m d bs p hp (by omega) hc hA w hl hr hq)
  have HRP : Hid (∀ W : World, Calls Tryd.prog 14 #[.string (tx p)] W fun e w' => e = .returned (.tuple #[.string (tx (fr p)), .int .i64 0]) ∧ Below W.heap.size W w') := fun W => rput_any p hp W
  have hfl : (bs ++ fr p).length ≤ 100 + 2048 + 14 := by
    rw [List.length_append, fr_len, blob_len]
    have := vb_len p.length (by unfold top; omega)
    omega
  obtain ⟨r, hrr⟩ : ∃ r, r = bs ++ fr p := ⟨_, rfl⟩
  obtain ⟨k, hk⟩ : ∃ k, k = (bs ++ fr p).length := ⟨_, rfl⟩
  have hfg : fg n r = (p, k, 0) := by
    have h := fg_laid bs [] p hp
    rw [List.append_nil, hbn, ← hrr] at h
    rw [h, hk, hrr]
  have hnk : n ≤ k := by rw [hk, List.length_append]; omega
  have HFG := Lib.hid hfg
  have HR := Lib.hid hr
  have HQ := Lib.hid hq
  have HL := Lib.hid hl
  have HRR := Lib.hid hrr
  have HK := Lib.hid hk
  rw [← hrr] at HP hfl hk
  rw [← hk] at HP hfl
  have hadd : ∀ W : World, (Op.stringOp .add (tx bs) (tx (fr p))).run Tryd.prog W = .ok (.string (tx r)) W := fun W => by
    rw [HRR.out]
    exact add_tx W bs (fr p) (by rw [← List.length_append, ← HK.out]; omega)
  have n1 : decide (2500 < (m : Int)) = false := by rw [decide_eq_false_iff_not]; omega
  have n2 : decide (100 < (n : Int)) = false := by rw [decide_eq_false_iff_not]; omega
  have hself : ((tx r).toList == (tx r).toList) = true := by simp
  have hself2 : ((tx p).toList == (tx p).toList) = true := by simp
  have hcv : (convert 22 9 (.slice L m d)).run Tryd.prog w = .ok (.string (tx p)) w := conv_reads Tryd.underlying22 Tryd.underlying5 Tryd.underlying9 hq
  clear hl hr hq hml hbn hrr hk hfg hp hm1 hcv
  go_enter Tryd.func4, Tryd.ntmps4
  go_wp2_with fail
  refine HP.out.mono ?_
  rintro e w1 ⟨v1, rfl, ho1, hb1⟩
  obtain ⟨A1, c1, rfl, hc1, hr1⟩ := own_reads ho1
  have HR1 := Lib.hid hr1
  clear ho1 hr1
  have hcv : (convert 22 9 (.slice L m d)).run Tryd.prog w1 = .ok (.string (tx p)) w1 := conv_reads Tryd.underlying22 Tryd.underlying5 Tryd.underlying9 (HQ.out.below hb1)
  go_wp2_with fail
  refine (HRP.out _).mono ?_
  rintro e w2 ⟨rfl, hb2⟩
  clear hcv
  have hB2 : Below w.heap.size w w2 := hb1.trans (hb2.mono hb1.size)
  have hget := fget_any A1 k c1 n r hc1 (by omega) hnk w2 (HL.out.below hB2) ((HR1.out.below hb2).more hb2.size)
  rw [HFG.out] at hget
  have HGET := Lib.hid hget
  clear hget
  go_wp2_with fail
  refine HGET.out.mono ?_
  rintro e w3 ⟨v3, rfl, hm3, hb3⟩
  obtain ⟨A3, c3, rfl, hc3, _, hr3⟩ := hm3.reads
  have HR3 := Lib.hid hr3
  clear hm3 hr3
  have hB3 : Below w.heap.size w w3 := hB2.trans (hb3.mono hB2.size)
  go_wp2_with fail
  refine (frame_fixed w3 (HL.out.below hB3)).mono ?_
  rintro e w4 ⟨rfl, hb4⟩
  have hB4 : Below w.heap.size w w4 := hB3.trans (hb4.mono hB3.size)
  have hcv1 : (convert 22 9 (.slice L m d)).run Tryd.prog w4 = .ok (.string (tx p)) w4 := conv_reads Tryd.underlying22 Tryd.underlying5 Tryd.underlying9 (HQ.out.below hB4)
  have hcv2 : (convert 22 9 (.slice A n c)).run Tryd.prog w4 = .ok (.string (tx bs)) w4 := conv_reads Tryd.underlying22 Tryd.underlying5 Tryd.underlying9 (HR.out.below hB4)
  have hcv3 : (convert 22 9 (.slice A1 k c1)).run Tryd.prog w4 = .ok (.string (tx r)) w4 := conv_reads Tryd.underlying22 Tryd.underlying5 Tryd.underlying9 (((HR1.out.below hb2).below (hb3.mono hb2.size)).below (hb4.mono (by have := hb2.size; have := hb3.size; omega)))
  have hcv4 : (convert 22 9 (.slice A3 p.length c3)).run Tryd.prog w4 = .ok (.string (tx p)) w4 := conv_reads Tryd.underlying22 Tryd.underlying5 Tryd.underlying9 (HR3.out.below hb4)
  have hself3 : ((k : Int) == (k : Int)) = true := by simp
  go_wp2
  go_ret
  exact ⟨rfl, hB4⟩

theorem fputs_any (A L : Option Addr) (n c m d : Nat) (bs p : List UInt8) (hc : n ≤ c) (hA : A = none → c = 0) (w : World) (hl : Laid w)
    (hr : Reads w w.heap.size 1 A n (bs.map bv)) (hq : Reads w w.heap.size 1 L m (p.map bv)) :
    Calls Tryd.prog 4 #[.slice A n c, .slice L m d] w fun e w' => e = .returned (.bool true) ∧ Below w.heap.size w w' := by
  have hml : p.length = m := by have := hq.1; simpa using this
  by_cases h : 2500 < m ∨ 100 < n
  · exact fputs_long A L n c m d h w hl
  · by_cases h0 : m = 0 ∨ 2048 < m
    · exact fputs_bad A L n c m d p (by omega) (by omega) h0 w hl hq
    · exact fputs_ok A L n c m d bs p (by omega) ⟨by omega, by omega⟩ hc hA w hl hr hq

end Go.Proofs.YtoanmbhnhofoiaaDoor
