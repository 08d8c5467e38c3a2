/- Contents given of a name: the program's, the document's; few steps; what is run. -/
import Derived.WalkLawsBesides
import Derived.Test.YtacjiojfjkonkaaWr0
import Derived.Test.YtacjiojfjkonkaaRn00
import Derived.Test.YtacjiojfjkonkaaRa0
import Derived.Test.YtacjiojfjkonkaaDe1
namespace Go.Proofs.Ytacjiojfjkonkaa
open Go.RowKit

/-- The contents of the last step of a name, among the first ones. -/
def givN (l : List Stp) (s : List UInt8) : Nat → Q64
  | 0 => 0#64
  | i + 1 => match l[i]? with
    | some x => if x.name = s then x.con else givN l s i
    | none => givN l s i
theorem giv_yes {l : List Stp} {s : List UInt8} {i : Nat} {x : Stp} (hx : l[i]? = some x) (h : x.name = s) : givN l s (i + 1) = x.con := by
  show (match l[i]? with | some x => _ | none => _) = _
  rw [hx]
  exact if_pos h
theorem giv_no {l : List Stp} {s : List UInt8} {i : Nat} {x : Stp} (hx : l[i]? = some x) (h : x.name ≠ s) : givN l s (i + 1) = givN l s i := by
  show (match l[i]? with | some x => _ | none => _) = _
  rw [hx]
  exact if_neg h
theorem qv_zero : Value.int .u64 0 = qv 0#64 := rfl

set_option maxRecDepth 100000 in
set_option maxHeartbeats 1000000 in
theorem rgiven_any (A : Option Addr) (n c : Nat) (xs : List Stp) (s : List UInt8) (hn : n ≤ 1000000) (w : World) (h : Steps w w.heap.size A n xs) :
    Calls Try.prog 15 #[.slice A n c, .string (tx s)] w fun e w' => e = .returned (qv (givN xs s n)) ∧ w = w' := by
  have HL : Hid (xs.length = n) := h.len
  have HS := Lib.hid h
  clear h
  go_enter Try.func15, Try.ntmps15
  go_wp2
  go_loopw [5, 6] (fun v idx wr => ∃ i : Nat, i ≤ n ∧ idx = .int .i64 (i : Int) ∧ v = qv (givN xs s i) ∧ w = wr) (fun _ idx _ => n - (intOf idx).toNat)
  case atStart => exact ⟨0, by omega, rfl, rfl, rfl⟩
  case round =>
    obtain ⟨i, hi, rfl, hv, rfl⟩ := hrel
    by_cases hlt : i < n
    · obtain ⟨x, hx⟩ : ∃ x, xs[i]? = some x := ⟨_, List.getElem?_eq_getElem (by rw [HL.out]; exact hlt)⟩
      obtain ⟨ad, rfl, _, k0, k1, k2⟩ := steps_cells HS.out i x hx
      have HX := Lib.hid hx
      have hi0 : (0 : Int) ≤ (i : Int) := by omega
      have hi1 : (i : Int) < (n : Int) := by omega
      obtain ⟨nm, ra, co⟩ := x
      simp only at k0 k1 k2
      by_cases e : nm = s
      · have HG := Lib.hid (giv_yes HX.out e)
        have he : ((tx nm).toList == (tx s).toList) = true := by rw [e]; exact beq_self_eq_true _
        simp only at HG
        obtain ⟨u, hu⟩ : ∃ u, u = qv co := ⟨_, rfl⟩
        have hu1 : u.oneCell' = true := by rw [hu]; rfl
        rw [← hu] at k2
        have HU := Lib.hid hu
        clear hx e hu hv
        go_wp2
        exact ⟨⟨i + 1, by omega, by go_num, by rw [HG.out]; exact HU.out, by first | rfl | trivial⟩, by simp [intOf]; omega⟩
      · have HG := Lib.hid (giv_no HX.out e)
        have he : ((tx nm).toList == (tx s).toList) = false := by
          rw [beq_eq_false_iff_ne]
          intro e2
          exact e (by simpa [tx] using e2)
        have HV := Lib.hid hv
        clear hx e hv
        go_wp2
        exact ⟨⟨i + 1, by omega, by go_num, by rw [HG.out]; exact HV.out, by first | rfl | trivial⟩, by simp [intOf]; omega⟩
    · obtain rfl : n = i := by omega
      have HV := Lib.hid hv
      clear hv
      go_wp2
      go_ret
      exact ⟨by rw [← HV.out]; rfl, by first | rfl | trivial⟩

set_option maxRecDepth 100000 in
set_option maxHeartbeats 1000000 in
theorem given_any (A : Option Addr) (n c : Nat) (xs : List Stp) (s : List UInt8) (hn : n ≤ 1000000) (w : World) (h : Steps w w.heap.size A n xs) :
    Calls Try.prog 14 #[.slice A n c, .string (tx s)] w fun e w' => e = .returned (qv (givN xs s n)) ∧ w = w' := by
  have HL : Hid (xs.length = n) := h.len
  have HS := Lib.hid h
  obtain ⟨m, hm⟩ : ∃ m, m = n := ⟨_, rfl⟩
  have HM : Hid (givN xs s m = givN xs s n) := by rw [hm]; exact rfl
  have HMN : Hid (m = n) := hm
  have hmi : (n : Int) - 1 = (m : Int) - 1 := by rw [hm]
  clear h hm
  go_enter Try.func14, Try.ntmps14
  go_wp2
  go_loopw [5] (fun idx wr => ∃ k : Nat, k ≤ n ∧ idx = .int .i64 ((k : Int) - 1) ∧ givN xs s k = givN xs s n ∧ w = wr) (fun idx _ => (intOf idx + 1).toNat)
  case atStart => exact ⟨m, by rw [HMN.out]; exact Nat.le_refl _, by first | rfl | (congr 1), HM.out, rfl⟩
  case round =>
    obtain ⟨k, hk, hidx, hv, rfl⟩ := hrel
    have HV := Lib.hid hv
    clear hv
    cases k with
    | zero =>
      obtain rfl := hidx
      clear hmi
      go_wp2
      go_ret
      exact ⟨by rw [← HV.out]; rfl, by first | rfl | trivial⟩
    | succ i =>
      have e1 : ((i + 1 : Nat) : Int) - 1 = (i : Int) := by omega
      rw [e1] at hidx
      obtain rfl := hidx
      obtain ⟨x, hx⟩ : ∃ x, xs[i]? = some x := ⟨_, List.getElem?_eq_getElem (by rw [HL.out]; exact hk)⟩
      obtain ⟨ad, rfl, _, k0, k1, k2⟩ := steps_cells HS.out i x hx
      have HX := Lib.hid hx
      have hi0 : (0 : Int) ≤ (i : Int) := by omega
      have hi1 : (i : Int) < (n : Int) := by omega
      obtain ⟨nm, ra, co⟩ := x
      simp only at k0 k1 k2
      by_cases e : nm = s
      · have HG := Lib.hid (giv_yes HX.out e)
        have he : ((tx nm).toList == (tx s).toList) = true := by rw [e]; exact beq_self_eq_true _
        simp only at HG
        obtain ⟨u, hu⟩ : ∃ u, u = qv co := ⟨_, rfl⟩
        have hu1 : u.oneCell' = true := by rw [hu]; rfl
        rw [← hu] at k2
        have HU := Lib.hid hu
        clear hx e hu e1 hmi
        go_wp2
        go_ret
        exact ⟨by rw [← HV.out, HG.out, ← HU.out]; rfl, by first | rfl | trivial⟩
      · have HG := Lib.hid (giv_no HX.out e)
        have he : ((tx nm).toList == (tx s).toList) = false := by
          rw [beq_eq_false_iff_ne]
          intro e2
          exact e (by simpa [tx] using e2)
        clear hx e e1 hmi
        go_wp2
        exact ⟨⟨i, by omega, by go_num, by rw [← HG.out]; exact HV.out, by first | rfl | trivial⟩, by first | (simp [intOf]; done) | (simp [intOf]; omega)⟩

end Go.Proofs.Ytacjiojfjkonkaa
