/- escape.Put: the signs of a text are put behind each other. -/
import Derived.Laws.IdiomStrings
import Derived.Lib.AppendStr
import Derived.Test.YthpnfdnhaphfgaaDoorMw
import Derived.Test.YthpnfdnhaphfgaaDoorEb
namespace Go.Proofs.YthpnfdnhaphfgaaDoor
open Go.RowKit

theorem einfo : (Tryd.prog.info? 5).map (fun i => (i.zero, i.size, i.bytes)) = some (some (.int .u8 0), 1, 1) := by kernel_rfl

/-- A variable in block bx holds bytes of the call's own; block G is another one. -/
def Bx (w : World) (base bx G : Nat) (acc : List UInt8) : Prop :=
  base ≤ bx ∧ ∃ v, w.heap[bx]? = some (.cells #[v] 53 (0, 0)) ∧ w.ownsRow base 5 1 v acc.length (acc.map bv) ∧ ∀ g, v.ownBlock = some g → g ≠ G

theorem Bx.below {w w' : World} {base bx G : Nat} {acc : List UInt8} (h : Bx w base bx G acc) (hb : Below w.heap.size w w') : Bx w' base bx G acc := by
  obtain ⟨h0, v, h1, h2, h3⟩ := h
  exact ⟨h0, v, (hb.block bx (Array.getElem?_eq_some_iff.1 h1).1).trans h1, own_below h2 hb, h3⟩
theorem Bx.lt {w : World} {base bx G : Nat} {acc : List UInt8} (h : Bx w base bx G acc) : bx < w.heap.size := by
  obtain ⟨h0, v, h1, h2, h3⟩ := h
  exact (Array.getElem?_eq_some_iff.1 h1).1

set_option maxRecDepth 100000 in
set_option maxHeartbeats 400000 in
theorem put1_any (base bx G : Nat) (acc xs : List UInt8) (A : Option Addr) (n c : Nat) (hn : n ≤ 10) (hacc : acc.length ≤ 1000000) (hG : G ≠ bx) (w : World) (hGl : G < w.heap.size) (hB : Bx w base bx G acc) (hA : A = none → c = 0) (hr : Reads w w.heap.size 1 A n (xs.map bv)) :
    Calls Tryd.prog 49 #[.slice A n c, .pointer (some ⟨bx, 0, none⟩)] w fun e w' => e = .returned (.tuple #[]) ∧ Bx w' base bx G (acc ++ xs) ∧ Turn (fun k => base ≤ k ∧ k ≠ G) w w' := by
  obtain ⟨i0, hi, hz0, hz1, hz2⟩ := info_parts einfo
  have hln : xs.length = n := by have := hr.1; simpa using this
  obtain ⟨h0, v, h1, h2, h3⟩ := hB
  have q0 := at_cell (i := 0) h1 rfl
  have hlt := (Array.getElem?_eq_some_iff.1 h1).1
  have hne : v.ownBlock ≠ some bx := own_cells h2 h1 (by decide)
  have H1 := Lib.hid h1
  have H2 := Lib.hid h2
  have H3 := Lib.hid h3
  have HNE := Lib.hid hne
  have HLN := Lib.hid hln
  have HR := Lib.hid hr
  have hbase : base ≤ w.heap.size := by omega
  clear h1 h2 h3 hne hln hr
  go_enter Tryd.func49, Tryd.ntmps49
  go_wp2_with (at_builtin; refine wpList_append_told _ rfl (.tmp 3) (.tmp 4) 53 rfl base 5 i0 _ 1 1 Tryd.underlying53 hi hz0 hz1 hz2 rfl (by decide) _ acc.length _ rfl H2.out A n c w.heap.size (xs.map bv) rfl hA HR.out (bv_one xs) (by unfold maxLen; omega) (by omega) hbase ?_; intro v1 w1 ho1 hg1 hv1; obtain ⟨A1, c1, rfl, _⟩ := own_slice ho1; have hb1 : w1.heap[bx]? = some (.cells #[v] 53 (0, 0)) := (hg1.block bx hlt (fun e => HNE.out e.symm)).trans H1.out; have p0 := at_cell (i := 0) hb1 rfl; have y0 := at_frozen (i := 0) hb1; have HO1 := Lib.hid ho1; have HG1 : Hid (w.grownBy w1 v.ownBlock) := hg1; have HV1 : Hid ((Value.slice A1 (acc.length + n) c1).ownBlock = v.ownBlock ∨ (Value.slice A1 (acc.length + n) c1).ownBlock = some w.heap.size) := hv1; have HB1 := Lib.hid hb1; clear ho1 hg1 hv1 hb1)
  go_end0
  have hne1 := own_cells HO1.out HB1.out (by decide)
  refine ⟨rfl, ⟨h0, _, set_same HB1.out 0 _, ?_, fun g hg e => ?_⟩, ?_⟩
  · have := own_heap HO1.out (w' := w1.setCell ⟨bx, 0, none⟩ (.slice A1 (acc.length + n) c1)) (fun g hg => Below.heap_setCell _ _ _ g (fun e => hne1 (by rw [hg]; exact congrArg some e)))
    rw [List.map_append, List.length_append, HLN.out]
    exact this
  · subst e
    rcases HV1.out with h | h
    · exact H3.out g (h.symm.trans hg) rfl
    · rw [h] at hg
      have : w.heap.size = g := Option.some.inj hg
      omega
  · refine ((Turn.refl _ w).grown HG1.out (fun i e hi => ?_)).setCell bx 0 _ ⟨h0, fun e => hG e.symm⟩
    exact ⟨own_block H2.out i e, H3.out i e⟩

end Go.Proofs.YthpnfdnhaphfgaaDoor
