/- escape.Put. -/
import Derived.Test.YthpnfdnhaphfgaaDoorEd
namespace Go.Proofs.YthpnfdnhaphfgaaDoor
open Go.RowKit

theorem emp_bytes (l : List UInt8) : (tx l).toList.isEmpty = decide (l = []) := by rw [tx_toList]; cases l <;> simp

set_option maxRecDepth 100000 in
set_option maxHeartbeats 1000000 in
theorem eput_any (l : List UInt8) (hl : l.length ≤ 1000) (w : World) :
    Calls Tryd.prog 22 #[.string (tx l)] w fun e w' => e = .returned (.string (tx (eput l))) ∧ Below w.heap.size w w' := by
  by_cases h0 : l = []
  · subst h0
    have h1 : (tx []).toList.isEmpty = true := by rw [emp_bytes]; decide
    go_enter Tryd.func22, Tryd.ntmps22
    go_wp2
    go_ret
    exact ⟨rfl, Below.refl _ _⟩
  · have h1 : (tx l).toList.isEmpty = false := by rw [emp_bytes, decide_eq_false h0]
    have h2 : (!(tx l).toList.isEmpty) = true := by rw [h1]; rfl
    obtain ⟨all, hall⟩ : ∃ all, all = decide (l = [45]) := ⟨_, rfl⟩
    have hit : Hid (∀ W, Calls Tryd.prog 48 #[.string (tx l)] W fun e w' => e = .returned (itv all) ∧ W = w') := fun W => by
      by_cases h : l = [45]
      · rw [hall, decide_eq_true h]; subst h; exact itself_h W
      · rw [hall, decide_eq_false h]; exact itself_o l h W
    have hb0 := (Below.refl w.heap.size w).alloc (Nat.le_refl _) (.cells #[.slice none 0 0] 53)
    have hn := one_new w (.cells #[.slice none 0 0] 53)
    have hwr : Hid (Calls Tryd.prog 47 #[.string (tx l), itv all, .func (.func 49) #[] #[.pointer (some ⟨w.heap.size, 0, none⟩)]] (w.alloc (.cells #[.slice none 0 0] 53)) fun e w' => e = .returned (.tuple #[]) ∧ Bx w' w.heap.size w.heap.size (w.alloc (.cells #[.slice none 0 0] 53)).heap.size ([] ++ l.flatMap (sgn all)) ∧ Below w.heap.size (w.alloc (.cells #[.slice none 0 0] 53)) w') := by
      unfold itv
      exact write_any0 all _ rfl l [] hl (by simp) w.heap.size w.heap.size _ ⟨Nat.le_refl _, _, hn, World.ownsRow_nil _ _ _ _, fun g hg => by simp [Value.ownBlock] at hg⟩
    have hfin0 : eput l = [] ++ l.flatMap (sgn all) := by unfold eput; rw [if_neg h0, hall]; rfl
    rw [← hfin0] at hwr
    generalize eput l = ac at hwr ⊢
    have HB0 := Lib.hid hb0
    have hmf : ∀ (fn : Fn) (first cap : Array Value) (w : World), (Instr.makeFunc fn first cap).run Tryd.prog w = .ok (.func fn first cap) w := fun _ _ _ _ => rfl
    unfold itv at hit hwr
    generalize hfv : (Value.func (.func (if all = true then 61 else 62)) #[] #[]) = fv at hit hwr
    clear hb0 hn h0 hall hfv hfin0
    go_enter Tryd.func22, Tryd.ntmps22
    go_wp2_with (first
      | (go_at_call 48; refine (hit.out _).mono ?_; rintro e w3 ⟨rfl, rfl⟩)
      | (go_at_call 47; refine hwr.out.mono ?_; rintro e w4 ⟨rfl, hb4, ht4⟩; obtain ⟨_, v4, hh4, ho4, _⟩ := hb4; have p0 := at_cell (i := 0) hh4 rfl; obtain ⟨A4, c4, rfl, _⟩ := own_slice ho4; have HR4 := Lib.hid (Reads.of_own ho4); have HT4 := Lib.hid ht4; have hcv := conv_reads (P := Tryd.prog) (src := 53) (dst := 9) (c := c4) Tryd.underlying53 Tryd.underlying5 Tryd.underlying9 HR4.out; clear hh4 ho4 ht4))
    go_ret
    exact ⟨rfl, HB0.out.trans HT4.out⟩

end Go.Proofs.YthpnfdnhaphfgaaDoor
