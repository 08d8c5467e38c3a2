/- Few steps; what is run of a node. -/
import Derived.Test.YtacjiojfjkonkaaWr1
import Derived.Test.YtacjiojfjkonkaaXd
namespace Go.Proofs.Ytacjiojfjkonkaa
open Go.RowKit

/-- Few steps, of short names. -/
def FewS (l : List Stp) : Prop := (∀ x ∈ l, x.name.length ≤ 100) ∧ l.length ≤ 100

set_option maxRecDepth 100000 in
set_option maxHeartbeats 1000000 in
theorem few_any (A : Option Addr) (n c : Nat) (xs : List Stp) (hn : n ≤ maxLen) (hok : ∀ x ∈ xs, x.name.length ≤ maxLen) (w : World) (h : Steps w w.heap.size A n xs) :
    Calls Try.prog 7 #[.slice A n c] w fun e w' => Tells (FewS xs) e ∧ Below w.heap.size w w' := by
  have HL : Hid (xs.length = n) := h.len
  have HS := Lib.hid h
  have HF := Lib.hid hok
  unfold maxLen at hn
  have hn2 : (n : Int) ≤ 9223372036854775807 := by omega
  clear h hok
  go_enter Try.func7, Try.ntmps7
  go_wp2
  go_loopw [7] (fun idx wr => ∃ i : Nat, i ≤ n ∧ idx = .int .i64 (i : Int) ∧ (∀ y ∈ xs.take i, y.name.length ≤ 100) ∧ Below w.heap.size w wr) (fun idx _ => n - (intOf idx).toNat)
  case atStart => exact ⟨0, by omega, rfl, by simp, Below.refl _ _⟩
  case round =>
    obtain ⟨i, hi, rfl, hall, hb⟩ := hrel
    have HALL := Lib.hid hall
    have HB := Lib.hid hb
    by_cases hlt : i < n
    · obtain ⟨x, hx⟩ : ∃ x, xs[i]? = some x := ⟨_, List.getElem?_eq_getElem (by rw [HL.out]; exact hlt)⟩
      obtain ⟨ad, rfl, _, k0, k1, k2⟩ := steps_cells (HS.out.below hb) i x hx
      have HX := Lib.hid hx
      have hmx := List.mem_of_getElem? hx
      have hfx := HF.out x hmx
      have hi0 : (0 : Int) ≤ (i : Int) := by omega
      have hi1 : (i : Int) < (n : Int) := by omega
      have HSTEP : Hid (x.name.length ≤ 100 → ∀ y ∈ xs.take (i + 1), y.name.length ≤ 100) := fun h y hy => by
        rw [List.take_add_one, hx, List.mem_append] at hy
        rcases hy with hy | hy
        · exact HALL.out y hy
        · obtain rfl : y = x := by simpa using hy
          exact h
      have HNO0 : Hid (¬ x.name.length ≤ 100 → ¬ FewS xs) := fun h h2 => h (h2.1 x hmx)
      obtain ⟨nm, ra, co⟩ := x
      simp only at k0 k1 k2 hfx HSTEP HNO0
      unfold qv at k2
      have hnew := one_new wr (.cells #[.string (tx nm), .bool ra, .int .u64 (co.toNat : Int)] 44)
      have p0 := at_cell (i := 0) hnew rfl
      have p1 := at_cell (i := 1) hnew rfl
      have p2 := at_cell (i := 2) hnew rfl
      have HB3 := Lib.hid (hb.alloc hb.size (.cells #[.string (tx nm), .bool ra, .int .u64 (co.toNat : Int)] 44))
      have hs0 := tx_size0 nm
      obtain ⟨q, hq⟩ : ∃ q, q = nm.length := ⟨_, rfl⟩
      rw [← hq] at hs0 hfx HSTEP HNO0
      unfold maxLen at hfx
      clear hx hmx hall hb hq hnew
      by_cases c2 : q ≤ 100
      · have d2 : decide ((q : Int) > 100) = false := decide_eq_false (by omega)
        have HA := Lib.hid (HSTEP.out c2)
        go_wp2
        exact ⟨⟨i + 1, by omega, by go_num, HA.out, HB3.out⟩, by simp [intOf]; omega⟩
      · have d2 : decide ((q : Int) > 100) = true := decide_eq_true (by omega)
        have HNO := Lib.hid (HNO0.out c2)
        go_wp2
        go_ret
        exact ⟨tells_false HNO.out, HB3.out⟩
    · obtain rfl : n = i := by omega
      rw [List.take_of_length_le (by rw [HL.out]; omega)] at HALL
      clear hb hall
      by_cases c1 : n ≤ 100
      · have d1 : decide ((n : Int) ≤ 100) = true := decide_eq_true (by omega)
        have HY : Hid (FewS xs) := ⟨HALL.out, by rw [HL.out]; exact c1⟩
        have END : Hid (∀ b : Bool, b = true → Tells (FewS xs) (.returned (.bool b))) := fun b h => h ▸ tells_true HY.out
        go_wp2
        go_ret
        exact ⟨END.out _ (by first | rfl | (simp; omega)), HB.out⟩
      · have d1 : decide ((n : Int) ≤ 100) = false := decide_eq_false (by omega)
        have HNO : Hid (¬ FewS xs) := fun h => c1 (by rw [← HL.out]; exact h.2)
        have END : Hid (∀ b : Bool, b = false → Tells (FewS xs) (.returned (.bool b))) := fun b h => h ▸ tells_false HNO.out
        go_wp2
        go_ret
        exact ⟨END.out _ (by first | rfl | (simp; omega)), HB.out⟩

set_option maxRecDepth 100000 in
set_option maxHeartbeats 1000000 in
theorem run_any (nm : List UInt8) (sc : Bool) (r : Q64) (xA : Option Addr) (xn xc : Nat) (L : Option Addr) (n c : Nat) (qs : List Q64) (hn : n ≤ 1000) (w : World) (hr : Reads w w.heap.size 1 L n (qs.map qv)) :
    Calls Try.prog 12 #[.agg #[.string (tx nm), .bool sc, qv r, .slice xA xn xc], .slice L n c] w fun e w' => e = .returned (qv (foq (dg r) qs)) ∧ Below w.heap.size w w' := by
  have HF := Lib.hid (fun (W : World) (hb : Below w.heap.size w W) => fold_any L n c r qs hn W ((hr.below hb).more hb.size))
  have HB0 := Lib.hid ((Below.refl w.heap.size w).alloc (Nat.le_refl _) (.cells #[.string (tx nm), .bool sc, qv r, .slice xA xn xc] 37))
  have h0 := one_new w (.cells #[.string (tx nm), .bool sc, qv r, .slice xA xn xc] 37)
  have q2 := at_cell (i := 2) h0 rfl
  obtain ⟨z, hz⟩ : ∃ z, z = qv (foq (dg r) qs) := ⟨_, rfl⟩
  rw [← hz] at HF ⊢
  have hz1 : z.oneCell' = true := by rw [hz]; rfl
  unfold qv at HF HB0 h0 q2 ⊢
  clear hr h0 hz
  go_enter Try.func12, Try.ntmps12
  go_wp2_with (go_at_call 23; refine (HF.out _ HB0.out).mono ?_; rintro e w2 ⟨rfl, hb2⟩; have HB2 := Lib.hid (HB0.out.trans (hb2.mono HB0.out.size)); clear hb2)
  go_ret
  exact ⟨rfl, HB2.out⟩

end Go.Proofs.Ytacjiojfjkonkaa
