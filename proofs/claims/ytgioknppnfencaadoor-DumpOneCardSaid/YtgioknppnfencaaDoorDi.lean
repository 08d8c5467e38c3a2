/- The walks of Hex, and of the document's. -/
import Derived.Outline
import Derived.WalkKit
import Derived.Lib.Hide
import Derived.Test.YtgioknppnfencaaDoorH
import Derived.Test.YtgioknppnfencaaDoorProg
import Derived.Test.YtgioknppnfencaaDoorDa
import Derived.Test.YtgioknppnfencaaDoorDh
import Derived.Laws.CopyOwn
import Derived.OwnWalk
namespace Go.Proofs.YtgioknppnfencaaDoor
open Go.RowKit

theorem hex_info5 : (Tryd.prog.info? 5).map (fun i => (i.zero, i.size, i.bytes)) = some (some (.int .u8 0), 1, 1) := by kernel_rfl

theorem _root_.Go.World.ownsRow.cells_eq {w : World} {base : Nat} {e : TypeId} {size : Nat} {v : Value} {n : Nat} {xs ys : List Value} (h : w.ownsRow base e size v n xs) (he : xs = ys) : w.ownsRow base e size v n ys := he ▸ h

/-- The row of Hex, of which the last i digits stand. -/
def hxrow (h i : Nat) : List UInt8 := List.replicate (16 - i) 0 ++ hexl h i

theorem hxrow_len (h i : Nat) (hi : i ≤ 16) : (hxrow h i).length = 16 := by simp [hxrow, hexl_len]; omega
theorem hxrow_set (h i : Nat) (hi : i < 16) : ((hxrow h i).map bv).set (15 - i) (bv (dig (h / 16 ^ i % 16))) = (hxrow h (i + 1)).map bv := by
  rw [← List.map_set]
  congr 1
  unfold hxrow
  rw [show 16 - i = (15 - i) + 1 by omega, show 16 - (i + 1) = 15 - i by omega, List.replicate_succ', List.append_assoc, List.set_append_right _ _ (by simp)]
  simp [hexl]

theorem hex_at (m : Nat) (hm : m < 16) (hp : m < ({ data := #[48, 49, 50, 51, 52, 53, 54, 55, 56, 57, 97, 98, 99, 100, 101, 102] } : ByteArray).size) :
    Value.int .u8 (((({ data := #[48, 49, 50, 51, 52, 53, 54, 55, 56, 57, 97, 98, 99, 100, 101, 102] } : ByteArray)[m]'hp).toNat : Nat) : Int) = bv (dig m) := by
  have h : ∀ k : Fin 16, ((({ data := #[48, 49, 50, 51, 52, 53, 54, 55, 56, 57, 97, 98, 99, 100, 101, 102] } : ByteArray)[k.val]'(by have := k.isLt; exact this)).toNat : Nat) = (dig k.val).toNat := by decide
  exact congrArg (fun x : Nat => Value.int .u8 (x : Int)) (h ⟨m, hm⟩)

theorem and15q (c : Nat) (hc : c < 18446744073709551616) : bits .and .u64 (c : Int) 15 = ((c % 16 : Nat) : Int) := by
  refine (u64_and_nat c 15 hc (by omega)).trans ?_
  congr 1
  exact Nat.and_two_pow_sub_one_eq_mod c 4

def HRel (h : Nat) (w : World) (idx : Value) (wr : World) : Prop :=
  ∃ j : Nat, j ≤ 16 ∧ idx = .int .i64 (j : Int) ∧ wr.ownsRow w.heap.size 5 1 (.slice (some ⟨w.heap.size, 0, none⟩) 16 16) 16 ((hxrow h j).map bv) ∧ Below w.heap.size w wr

set_option maxRecDepth 100000 in
set_option maxHeartbeats 400000 in
theorem hex_any (h : Q64) (w : World) :
    Calls Tryd.prog 33 #[qv h] w fun e w' => e = .returned (.string (tx (hexl h.toNat 16))) ∧ Below w.heap.size w w' := by
  obtain ⟨i0, hi, hz0, hz1, hz2⟩ := info_parts hex_info5
  unfold qv
  have ha64 := h.isLt
  generalize h.toNat = a at *
  go_enter Tryd.func33, Tryd.ntmps33
  obtain ⟨w1, hrun0, hown, hgrow⟩ := run_make_full (P := Tryd.prog) w w.heap.size 39 5 i0 (.int .u8 0) 1 Tryd.underlying39 hi hz0 hz1 .i64 .i64 16 (by rw [hz2]; omega) (by unfold maxLen; omega) (Nat.le_refl _)
  have hrun : (Instr.makeSlice 39 (.int .i64 16) (.int .i64 16)).run Tryd.prog w = .ok (.slice (some ⟨w.heap.size, 0, none⟩) 16 16) w1 := hrun0
  have hb1 : Below w.heap.size w w1 := (Below.refl _ w).grown hgrow (Nat.le_refl _) (by simp)
  have HOWN := Lib.hid hown
  have HA := Lib.hid ha64
  clear hrun0 hgrow hown ha64
  go_wp2
  clear hrun
  go_loopw [8] (fun idx wr => HRel a w idx wr) (fun idx wr => 16 - (intOf idx).toNat)
  case atStart => exact ⟨0, by omega, rfl, HOWN.out.cells_eq ((toList_madeCells_one _ _).trans rfl), hb1⟩
  case round =>
    obtain ⟨j, hj, rfl, ho, hb⟩ := hrel
    have HO := Lib.hid ho
    by_cases hlt : j < 16
    · have hfz : wr.frozen? ⟨w.heap.size, 15 - j, none⟩ = false := ho.frozenAt (15 - j)
      obtain ⟨ho2, hg2⟩ := ho.stored (15 - j) (bv (dig (a / 16 ^ j % 16)))
      have ho3 := ho2.cells_eq (hxrow_set a j hlt)
      have hb2 := hb.grown hg2 (by have := hb.size; omega) (by intro g hg; injection hg with hg; omega)
      obtain ⟨old, hold⟩ : ∃ old, ((hxrow a j).map bv)[15 - j]? = some old := ⟨_, List.getElem?_eq_getElem (by rw [List.length_map, hxrow_len _ _ hj]; omega)⟩
      have hcell : wr.cell? ⟨w.heap.size, 15 - j, none⟩ = some old := (ho.cellAt (15 - j) (by omega)).trans hold
      have HO3 := Lib.hid ho3
      have HB2 := Lib.hid hb2
      clear ho ho2 hg2 ho3 hb2 hold
      obtain ⟨q, hq⟩ : ∃ q, q = a / 16 ^ j := ⟨_, rfl⟩
      obtain ⟨m, hm⟩ : ∃ m, m = a / 16 ^ j % 16 := ⟨_, rfl⟩
      have hm16 : m < 16 := by omega
      have k1 : (a : Int) / 2 ^ (4 * j) = (q : Int) := by
        rw [hq, Int.natCast_ediv, Int.natCast_pow, show (16 : Nat) = 2 ^ 4 from rfl, Int.natCast_pow, ← Int.pow_mul]
        rfl
      have k2 : bits .and .u64 (q : Int) 15 = (m : Int) := by
        rw [and15q q (by have := HA.out; have := Nat.div_le_self a (16 ^ j); omega), hm, hq]
      rw [← hm] at HO3 HB2
      clear hq hm
      go_wp2
      refine ⟨⟨j + 1, by omega, by go_num, ?_, ?_⟩, by simp [intOf]; omega⟩
      · rw [hex_at m hm16]; exact HO3.out
      · rw [hex_at m hm16]; exact HB2.out
    · obtain rfl : j = 16 := by omega
      have hr := Reads.of_own ho
      have he : hxrow a 16 = hexl a 16 := rfl
      rw [he] at hr
      have hcv := conv_reads (P := Tryd.prog) (src := 39) (dst := 9) (c := 16) Tryd.underlying39 Tryd.underlying5 Tryd.underlying9 hr
      clear ho hr he
      obtain ⟨s, hs⟩ : ∃ s, s = tx (hexl a 16) := ⟨_, rfl⟩
      rw [← hs] at hcv
      have HS := Lib.hid hs
      clear hs
      go_wp2
      go_ret
      exact ⟨by rw [← HS.out]; rfl, hb⟩

theorem hex_piece (m : Nat) (hm : m < 16) : ({ data := #[48, 49, 50, 51, 52, 53, 54, 55, 56, 57, 97, 98, 99, 100, 101, 102] } : ByteArray).extract m (m + 1) = tx [dig m] := by
  have h : ∀ k : Fin 16, ({ data := #[48, 49, 50, 51, 52, 53, 54, 55, 56, 57, 97, 98, 99, 100, 101, 102] } : ByteArray).extract k.val (k.val + 1) = tx [dig k.val] := by decide
  exact h ⟨m, hm⟩

def XRel (a : Nat) (w : World) (n s idx : Value) (wr : World) : Prop := ∃ j : Nat, j ≤ 16 ∧ n = .int .u64 ((a / 16 ^ j : Nat) : Int) ∧ s = .string (tx (hexl a j)) ∧ idx = .int .i64 (j : Int) ∧ w = wr

theorem wrap_n (a : Nat) (h : a < 18446744073709551616) : IntKind.u64.wrap (a : Int) = (a : Int) := by
  rw [IntKind.wrap_u64]
  omega

set_option maxRecDepth 100000 in
set_option maxHeartbeats 400000 in
theorem refhex_any (h : Q64) (w : World) :
    Calls Tryd.prog 40 #[qv h] w fun e w' => e = .returned (.string (tx (hexl h.toNat 16))) ∧ w = w' := by
  unfold qv
  have ha64 := h.isLt
  generalize h.toNat = a at *
  have HA := Lib.hid ha64
  have H0 : XRel a w (.int .u64 (a : Int)) (.string ⟨#[]⟩) (.int .i64 0) w := ⟨0, by omega, by simp, rfl, rfl, rfl⟩
  clear ha64
  go_enter Tryd.func40, Tryd.ntmps40
  go_wp2
  go_loopw [0, 3, 4] (fun n s idx wr => XRel a w n s idx wr) (fun _ _ idx _ => 16 - (intOf idx).toNat)
  case atStart => exact H0
  case round =>
    obtain ⟨j, hj, rfl, rfl, rfl, rfl⟩ := hrel
    clear H0
    by_cases hlt : j < 16
    · obtain ⟨q, hq⟩ : ∃ q, q = a / 16 ^ j := ⟨_, rfl⟩
      obtain ⟨m, hm⟩ : ∃ m, m = a / 16 ^ j % 16 := ⟨_, rfl⟩
      have hm16 : m < 16 := by omega
      have hq64 : q < 18446744073709551616 := by have := HA.out; have := Nat.div_le_self a (16 ^ j); omega
      obtain ⟨q2, hq2⟩ : ∃ q2, q2 = q / 16 := ⟨_, rfl⟩
      have hnext : q2 = a / 16 ^ (j + 1) := by rw [hq2, hq, Nat.pow_succ, Nat.div_div_eq_div_mul]
      have k1 : (q : Int) % 16 = (m : Int) := by omega
      have k2 : (q : Int) / 16 = (q2 : Int) := by omega
      have k3 := wrap_n m (by omega)
      have k4 := wrap_n q2 (by omega)
      have k5 : IntKind.u64.wrap ((m : Int) + 1) = ((m + 1 : Nat) : Int) := wrap_n (m + 1) (by omega)
      obtain ⟨s0, hs0⟩ : ∃ s0, s0 = tx (hexl a j) := ⟨_, rfl⟩
      obtain ⟨s1, hs1⟩ : ∃ s1, s1 = tx (hexl a (j + 1)) := ⟨_, rfl⟩
      have hadd : ∀ W : World, (Op.stringOp .add (tx [dig m]) s0).run Tryd.prog W = .ok (.string s1) W := fun W => by
        rw [hs0, hs1, hm]
        exact add_tx W [dig (a / 16 ^ j % 16)] (hexl a j) (by rw [hexl_len]; simp; omega)
      have hsl : ∀ W : World, (Instr.slice 9 (.string { data := #[48, 49, 50, 51, 52, 53, 54, 55, 56, 57, 97, 98, 99, 100, 101, 102] }) (some (.int .u64 (m : Int))) (some (.int .u64 ((m : Int) + 1))) none).run Tryd.prog W = .ok (.string (tx [dig m])) W := fun W => by
        have hsz : ({ data := #[48, 49, 50, 51, 52, 53, 54, 55, 56, 57, 97, 98, 99, 100, 101, 102] } : ByteArray).size = 16 := rfl
        rw [run_slice_string W 9 _ .u64 .u64 (m : Int) ((m : Int) + 1) Tryd.underlying9 (by omega) (by omega) (by rw [hsz]; omega)]
        rw [show ((m : Int) + 1).toNat = m + 1 by omega, show ((m : Int)).toNat = m by omega, hex_piece m hm16]
      rw [← hq, ← hs0]
      have HN := Lib.hid hnext
      have HS := Lib.hid hs1
      clear hq hm hq2 hs0 hs1 hnext
      generalize tx [dig m] = d at *
      go_wp2
      exact ⟨⟨j + 1, by omega, by rw [← HN.out], by rw [← HS.out], by go_num, rfl⟩, by simp [intOf]; omega⟩
    · obtain rfl : j = 16 := by omega
      obtain ⟨s, hs⟩ : ∃ s, s = tx (hexl a 16) := ⟨_, rfl⟩
      rw [← hs]
      have HS := Lib.hid hs
      clear hs
      go_wp2
      go_ret
      exact ⟨by rw [← HS.out]; rfl, rfl⟩

end Go.Proofs.YtgioknppnfencaaDoor
