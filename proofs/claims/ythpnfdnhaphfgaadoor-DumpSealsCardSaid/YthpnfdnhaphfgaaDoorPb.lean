/- A builder's first write; the text of no records; the law's example. -/
import Derived.Shelf.Strings.Builder1
import Derived.Lib.AppendStr
import Derived.Lib.UnsafeStr
import Derived.Test.YthpnfdnhaphfgaaDoorPa
namespace Go.Proofs.YthpnfdnhaphfgaaDoor
open Go.RowKit

theorem builder_info : (Tryd.prog.info? 55).map (·.size) = some 2 := by kernel_rfl
theorem builder_lies : liesAt Tryd.prog Tryd.prog.depth 55 (2 / Tryd.prog.cellsOf 55) 0 55 1 = true := by kernel_rfl
theorem byte_info : (Tryd.prog.info? 5).map (fun i => (i.zero, i.size, i.bytes)) = some (some (.int .u8 0), 1, 1) := by kernel_rfl

set_option maxHeartbeats 1000000 in
set_option maxRecDepth 100000 in
theorem check_fresh (b : Nat) (w : World) (h0 : w.cell? ⟨b, 0, none⟩ = some (.pointer none)) (hsh : w.shape? b = some (55, 2)) (hfz : w.frozen? ⟨b, 0, none⟩ = false) :
    Calls Tryd.prog 55 #[.pointer (some ⟨b, 0, none⟩)] w fun e w' => e = .returned (.tuple #[]) ∧ w' = w.setCell ⟨b, 0, none⟩ (.pointer (some ⟨b, 0, none⟩)) := by
  obtain ⟨j, hj, hjs⟩ := Option.map_eq_some_iff.1 builder_info
  go_enter Tryd.func55, Tryd.ntmps55
  go_wp2
  rw [Lib.run_to_unsafe w ⟨b, 0, none⟩ Tryd.underlying52 Tryd.underlying93 hj (by rw [hjs]; decide) hsh (Nat.zero_lt_succ 1)]
  simp only [Result.andThen]
  rw [Oper.upon_value]
  go_wp2
  rw [run_callFunc_extern Tryd.func72 (by kernel_rfl) (by kernel_rfl) (by kernel_rfl) (e := Extern.AbiNoEscape.same) (by kernel_rfl)]
  rw [Lib.run_noEscape]
  simp only [Result.andThen]
  rw [Oper.upon_value]
  go_wp2
  rw [Lib.run_from_unsafe w ⟨b, 0, none⟩ Tryd.underlying93 Tryd.underlying52 hj hsh builder_lies]
  simp only [Result.andThen]
  rw [Oper.upon_value]
  go_wp2
  go_end0
  exact ⟨rfl, rfl⟩

set_option maxHeartbeats 2000000 in
set_option maxRecDepth 100000 in
theorem write_fresh (B b : Nat) (s : ByteArray) (w : World) (h : Lib.BuilderAt 55 5 B b (.pointer none) [] w) (hlen : s.size ≤ 1000000) (hBw : B ≤ w.heap.size) :
    Calls Tryd.prog 33 #[.pointer (some ⟨b, 0, none⟩), .string s] w fun e w' => e = .returned (.tuple #[.int .i64 s.size, .nilIface]) ∧ (Lib.BuilderAt 55 5 B b (.pointer (some ⟨b, 0, none⟩)) (Lib.strCells s) w' ∧ Below B w w') := by
  obtain ⟨i0, hi, hz0, hz1, hz2⟩ := info_parts byte_info
  have hcc := check_fresh b w h.cell0 h.shape h.frozen0
  have HU := Lib.hid (h.used (.pointer (some ⟨b, 0, none⟩)))
  have hB1 := Lib.hid ((Below.refl B w).setCell (p := ⟨b, 0, none⟩) h.1 (.pointer (some ⟨b, 0, none⟩)))
  have HC := Lib.hid hcc
  clear hcc h
  go_enter Tryd.func33, Tryd.ntmps33
  go_wp2_with fail
  refine HC.out.mono ?_
  rintro e w1 ⟨rfl, hw1⟩
  rw [← hw1] at HU hB1
  clear hw1 HC
  obtain ⟨hB, v, hbk, hown, hne⟩ := HU.out
  have hb1 := hB1.out
  have c0 : w1.cell? ⟨b, 0, none⟩ = some (.pointer (some ⟨b, 0, none⟩)) := by rw [Lib.cell_of_heap hbk]; rfl
  have c1 : w1.cell? ⟨b, 1, none⟩ = some v := by rw [Lib.cell_of_heap hbk]; rfl
  go_wp2_with (at_builtin; refine Lib.wpList_append_own_string _ rfl _ _ 53 9 rfl B 5 i0 Tryd.underlying53 Tryd.underlying9 hi hz0 hz1 hz2 _ _ _ rfl hown s rfl ?c3 ?c4 ?c5 ?_)
  case c3 => unfold maxLen; simp; omega
  case c4 => simp; omega
  case c5 => have := hb1.size; omega
  intro v' w2 hown' hgrow _
  have hlt : b < w1.heap.size := by
    rcases Nat.lt_or_ge b w1.heap.size with h' | h'
    · exact h'
    · simp [Array.getElem?_eq_none h'] at hbk
  have hb2 : w2.heap[b]? = some (.cells #[.pointer (some ⟨b, 0, none⟩), v] 55 (0, 0)) := by
    rw [hgrow.block b hlt (fun e => hne e.symm)]
    exact hbk
  have d0 : w2.cell? ⟨b, 0, none⟩ = some (.pointer (some ⟨b, 0, none⟩)) := by rw [Lib.cell_of_heap hb2]; rfl
  have d1 : w2.cell? ⟨b, 1, none⟩ = some v := by rw [Lib.cell_of_heap hb2]; rfl
  have f1 : w2.frozen? ⟨b, 1, none⟩ = false := Lib.frozen_of_heap hb2 1
  obtain ⟨ao, n', cap, rfl⟩ : ∃ ao n' cap, v' = .slice ao n' cap := by
    rcases hown'.2 with ⟨hv, _⟩ | ⟨g, cap, cur, hv, _⟩
    · exact ⟨_, _, _, hv⟩
    · exact ⟨_, _, _, hv⟩
  go_wp2
  go_ret2
  refine ⟨rfl, ?_, ?_⟩
  · exact Lib.BuilderAt.put (T := 55) (e := 5) hB hb2 (bs' := Lib.strCells s) (by simpa [Lib.strCells_length] using hown') (by decide)
  · exact (hb1.grown hgrow (by have := hb1.size; omega) (fun k hk => (hown.lt k hk).1)).setCell (p := ⟨b, 1, none⟩) hB _

theorem fresh_builder (w : World) : Lib.BuilderAt 55 5 w.heap.size w.heap.size (.pointer none) [] (w.alloc (.cells #[.pointer none, .slice none 0 0] 55)) :=
  ⟨Nat.le_refl _, .slice none 0 0, one_new w _, World.ownsRow_nil _ _ _ _, by simp [Value.ownBlock]⟩
theorem builder_below {T e : TypeId} {B b : Nat} {p : Value} {bs : List Value} {w w' : World} (h : Lib.BuilderAt T e B b p bs w) (hb : Below w.heap.size w w') : Lib.BuilderAt T e B b p bs w' := by
  have hlt := h.lt
  obtain ⟨hB, v, hk, hown, hne⟩ := h
  exact ⟨hB, v, (hb.block b hlt).trans hk, own_below hown hb, hne⟩

theorem right_nil (w : World) : Calls Tryd.prog 32 #[.slice none 0 0] w fun e w' => e = .returned (.bool true) ∧ w = w' := by
  go_enter Tryd.func32, Tryd.ntmps32
  go_wp2
  go_loopw [7] (fun v wr => v = .int .i64 0 ∧ w = wr) (fun _ _ => 0)
  case atStart => exact ⟨rfl, rfl⟩
  case round =>
    obtain ⟨rfl, rfl⟩ := hrel
    go_wp2
    go_ret
    exact ⟨rfl, rfl⟩

/-- The first line of no records. -/
def line0 : List UInt8 := [116, 101, 112, 104, 114, 97, 32, 48, 10]

theorem itoa0 (W : World) : Calls Tryd.prog 34 #[.int .i64 0] W fun e w' => e = .returned (.string { data := #[48] }) ∧ w' = W := by
  have h := Tryd.strconv_Itoa_small 0 (by omega) W
  rw [show Lib.decDigits 0 = [48] by unfold Lib.decDigits; simp] at h
  exact h
theorem join0 (W : World) : Calls Tryd.prog 26 #[.slice (some ⟨W.heap.size, 0, none⟩) 2 2] (W.alloc (.cells #[.string { data := #[116, 101, 112, 104, 114, 97] }, .string { data := #[48] }] 9)) fun e w' => e = .returned (.string { data := #[116, 101, 112, 104, 114, 97, 32, 48] }) ∧ Below W.heap.size W w' := ejoin_two [116, 101, 112, 104, 114, 97] [48] (by simp) (by simp) W
theorem add0 (W : World) : (Op.stringOp .add { data := #[116, 101, 112, 104, 114, 97, 32, 48] } { data := #[10] }).run Tryd.prog W = .ok (.string (tx line0)) W := add_tx W [116, 101, 112, 104, 114, 97, 32, 48] [10] (by simp)
theorem line0_cells : Lib.strCells (tx line0) = Lib.byteCells line0 := rfl
theorem line0_string (B b : Nat) (W : World) (h : Lib.IsBuilder 55 5 B b (Lib.byteCells line0) W) (h2 : B ≤ W.heap.size) : Calls Tryd.prog 35 #[.pointer (some ⟨b, 0, none⟩)] W fun e w' => e = .returned (.string (tx line0)) ∧ Below B W w' := Tryd.Builder_String_any B b line0 W h h2
theorem line0_size : (tx line0).size = 9 := rfl

set_option maxHeartbeats 1000000 in
set_option maxRecDepth 100000 in
theorem text_nil (w : World) (hl : Laid w) : Calls Tryd.prog 13 #[.slice none 0 0] w fun e w' => e = .returned (.tuple #[.string (tx (seald line0)), .int .i64 0]) ∧ Below w.heap.size w w' := by
  have HR := Lib.hid (fun W => right_nil W)
  have HI := Lib.hid itoa0
  have hj := join0 (w.alloc (.cells #[.pointer none, .slice none 0 0] 55))
  rw [World.size_alloc] at hj
  have HJ := Lib.hid hj
  clear hj
  have hadd := add0
  have HB0 := Lib.hid (fresh_builder w)
  have HW0 := Lib.hid ((Below.refl _ w).alloc (Nat.le_refl _) (.cells #[.pointer none, .slice none 0 0] 55))
  have HCELLS := Lib.hid line0_cells
  have hsz := line0_size
  have HL := Lib.hid hl
  have HSE := Lib.hid (fun W h => sealed_any line0 (by decide) W h)
  have HST := Lib.hid line0_string
  generalize tx (seald line0) = q at *
  generalize tx line0 = s at *
  generalize Lib.byteCells line0 = lc at *
  clear hl
  go_enter Tryd.func13, Tryd.ntmps13
  go_wp2_with fail
  refine (HR.out _).mono ?_
  rintro e w1 ⟨rfl, rfl⟩
  go_wp2_with fail
  refine (HI.out _).mono ?_
  rintro e w2 ⟨rfl, rfl⟩
  go_wp2_with fail
  refine HJ.out.mono ?_
  rintro e w3 ⟨rfl, hb3⟩
  have HB3 := Lib.hid (builder_below HB0.out (by rw [World.size_alloc]; exact hb3))
  have HW3 := Lib.hid (HW0.out.trans (hb3.mono (by omega)))
  clear hb3
  go_wp2_with fail
  refine (write_fresh w.heap.size w.heap.size _ w3 HB3.out (by rw [hsz]; omega) HW3.out.size).mono ?_
  rintro e w4 ⟨rfl, hb4, hw4⟩
  rw [HCELLS.out] at hb4
  have HB4 := Lib.hid hb4
  have HW4 := Lib.hid (HW3.out.trans hw4)
  clear hb4 hw4
  go_wp2
  go_loopw [21] (fun v wr => v = .int .i64 0 ∧ w4 = wr) (fun _ _ => 0)
  case atStart => exact ⟨rfl, rfl⟩
  case round =>
    obtain ⟨rfl, rfl⟩ := hrel
    go_wp2_with fail
    refine (HST.out w.heap.size w.heap.size _ (.inr HB4.out) HW4.out.size).mono ?_
    rintro e w5 ⟨rfl, hb5⟩
    have HW5 := Lib.hid (HW4.out.trans hb5)
    clear hb5
    go_wp2_with fail
    refine (HSE.out _ (HL.out.below HW5.out)).mono ?_
    rintro e w6 ⟨rfl, hb6⟩
    have hw6 := HW5.out.trans (hb6.mono HW5.out.size)
    clear hb6
    go_wp2
    go_ret2
    exact ⟨rfl, hw6⟩

set_option maxHeartbeats 1000000 in
set_option maxRecDepth 100000 in
theorem dfixed_any (w : World) (hl : Laid w) : Calls Tryd.prog 8 #[] w fun e w' => e = .returned (.bool true) ∧ Below w.heap.size w w' := by
  have HT := Lib.hid (text_nil w hl)
  have HP : Hid (∀ W, Calls Tryd.prog 19 #[.string (tx (seald line0)), .string { data := #[116, 101, 112, 104, 114, 97, 32, 48, 10, 115, 117, 109, 32] }] W fun e w' => e = .returned (.bool true) ∧ w' = W) := fun W => by
    have h := Tryd.strings_HasPrefix (tx (seald line0)) { data := #[116, 101, 112, 104, 114, 97, 32, 48, 10, 115, 117, 109, 32] } W
    rw [show Lib.hasPrefix (tx (seald line0)).data.toList ({ data := #[116, 101, 112, 104, 114, 97, 32, 48, 10, 115, 117, 109, 32] } : ByteArray).data.toList = true by
      show List.isPrefixOf _ _ = true
      rw [List.isPrefixOf_iff_prefix]
      exact ⟨sum8 line0 ++ [10], by simp [seald, line0, tx]⟩] at h
    exact h
  have hsz : (tx (seald line0)).size = 22 := by rw [tx_size, seald_len]; rfl
  generalize tx (seald line0) = q at *
  clear hl
  go_enter Tryd.func8, Tryd.ntmps8
  go_wp2_with fail
  refine HT.out.mono ?_
  rintro e w1 ⟨rfl, hb1⟩
  go_wp2_with fail
  refine (HP.out _).mono ?_
  rintro e w2 ⟨rfl, rfl⟩
  go_wp2
  go_ret
  exact ⟨rfl, hb1⟩

end Go.Proofs.YthpnfdnhaphfgaaDoor
