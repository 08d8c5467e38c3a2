/- dump.Sealed, and the document's. -/
import Derived.Laws.Strings2
import Derived.Laws.Strings3
import Derived.Lib.Join
import Derived.Test.YtgioknppnfencaaDoorSh
import Derived.Test.YtgioknppnfencaaDoorMw
import Derived.Test.YtgioknppnfencaaDoorCd
import Derived.Test.YtgioknppnfencaaDoorDi
import Derived.Test.YtgioknppnfencaaDoorDm
namespace Go.Proofs.YtgioknppnfencaaDoor
open Go.RowKit

theorem stx_extract (l : List UInt8) (a b : Nat) : (tx l).extract a b = tx ((l.take b).drop a) := by
  apply ByteArray.ext
  simp [tx, ByteArray.data_extract]
  rw [List.drop_take]

theorem join_two (a b : List UInt8) : Lib.join ([tx a, tx b].map (·.data.toList)) ({ data := #[32] } : ByteArray).data.toList = a ++ 32 :: b := by
  simp [Lib.join, List.intercalate, tx]

set_option maxRecDepth 100000 in
theorem ejoin_two (a b : List UInt8) (ha : a.length ≤ 1000) (hb : b.length ≤ 1000) (W : World) :
    Calls Tryd.prog 15 #[.slice (some ⟨W.heap.size, 0, none⟩) 2 2] (W.alloc (.cells #[.string (tx a), .string (tx b)] 9)) fun e w' => e = .returned (.string (tx (a ++ 32 :: b))) ∧ Below W.heap.size W w' := by
  have h2 := Tryd.strings_Join W.heap.size 0 2 [tx a, tx b] { data := #[32] } (W.alloc (.cells #[.string (tx a), .string (tx b)] 9)) (fun j x hx => by
    simp only [World.cell?, World.alloc, Array.getElem?_push_size, Nat.zero_add]
    match j, hx with
    | 0, hx => simpa using hx
    | 1, hx => simpa using hx) (by simp) (by simp) (by simp) (by rw [join_two]; simp; omega)
  rw [join_two] at h2
  have H := Lib.hid h2
  have hb0 := Lib.hid ((Below.refl _ W).alloc (Nat.le_refl _) (.cells #[.string (tx a), .string (tx b)] 9))
  clear h2
  generalize tx a = sa at *
  generalize tx b = sb at *
  go_enter Tryd.func15, Tryd.ntmps15
  go_wp2_with fail
  refine H.out.mono ?_
  rintro e w3 ⟨rfl, hb⟩
  have hb1 := hb0.out.trans (hb.mono (by simp))
  clear hb
  go_wp2
  go_ret
  exact ⟨rfl, hb1⟩

/-- The last eight digits of a text's sum. -/
def sum8 (l : List UInt8) : List UInt8 := (hexl (crc l).toNat 16).drop 8
theorem sum8_len (l : List UInt8) : (sum8 l).length = 8 := by unfold sum8; rw [List.length_drop, hexl_len]
/-- A text with its sum behind. -/
def seald (l : List UInt8) : List UInt8 := (l ++ ([115, 117, 109] ++ 32 :: sum8 l)) ++ [10]
theorem seald_len (l : List UInt8) : (seald l).length = l.length + 13 := by unfold seald; simp [sum8_len]
theorem seald_one {a b : List UInt8} (h : seald a = seald b) : a = b := by
  have hl := congrArg List.length h
  rw [seald_len, seald_len] at hl
  unfold seald at h
  rw [List.append_assoc, List.append_assoc b] at h
  exact List.append_inj_left h (by omega)

theorem hex_of (z : Nat) (hz : z < 4294967296) (W : World) : Calls Tryd.prog 33 #[.int .u64 (z : Int)] W fun e w' => e = .returned (.string (tx (hexl z 16))) ∧ Below W.heap.size W w' := by
  have h := hex_any (BitVec.ofNat 64 z) W
  rw [qv_ofNat (show z < top by unfold top; omega), BitVec.toNat_ofNat, Nat.mod_eq_of_lt (show z < 2 ^ 64 by omega)] at h
  exact h
theorem rhex_of (z : Nat) (hz : z < 4294967296) (W : World) : Calls Tryd.prog 40 #[.int .u64 (z : Int)] W fun e w' => e = .returned (.string (tx (hexl z 16))) ∧ W = w' := by
  have h := refhex_any (BitVec.ofNat 64 z) W
  rw [qv_ofNat (show z < top by unfold top; omega), BitVec.toNat_ofNat, Nat.mod_eq_of_lt (show z < 2 ^ 64 by omega)] at h
  exact h

theorem slice8 (z : Nat) (W : World) : (Instr.slice 9 (.string (tx (hexl z 16))) (some (.int .i64 8)) none none).run Tryd.prog W = .ok (.string (tx ((hexl z 16).drop 8))) W := by
  have hsz : (tx (hexl z 16)).size = 16 := by rw [tx_size, hexl_len]
  have h1 := run_slice_string_from_if (P := Tryd.prog) W 9 (tx (hexl z 16)) .i64 8 Tryd.underlying9
  rw [if_pos (by rw [hsz]; omega), hsz, stx_extract, List.take_of_length_le (by rw [hexl_len]; exact Nat.le_refl _)] at h1
  exact h1

set_option maxRecDepth 100000 in
set_option maxHeartbeats 1000000 in
theorem sealed_any (l : List UInt8) (hn : l.length ≤ 100000000) (w : World) (hl : Laid w) :
    Calls Tryd.prog 18 #[.string (tx l)] w fun e w' => e = .returned (.string (tx (seald l))) ∧ Below w.heap.size w w' := by
  have HTX : Hid (∀ W X, Below w.heap.size w W → X = (W.drew.alloc (.cells (bytesRow (tx l) (grownCap W (tx l).size 0 5)) 5 ((bytesRow (tx l) (grownCap W (tx l).size 0 5)).size, (bytesRow (tx l) (grownCap W (tx l).size 0 5)).size + 1))).alloc (.cells #[.slice (some ⟨W.heap.size, 0, none⟩) (tx l).size (grownCap W (tx l).size 0 5)] 39) →
      Calls Tryd.prog 36 #[.slice (some ⟨W.heap.size + 1, 0, none⟩) 1 1] X fun e w' => e = .returned (wv (crc l)) ∧ X = w') := fun W X hb hX => text_sum l (by omega) W (hl.below hb) X hX
  have hzl := (crc l).isLt
  have hv : wv (crc l) = .int .u32 ((crc l).toNat : Int) := rfl
  have HJ := Lib.hid (fun W => ejoin_two [115, 117, 109] (sum8 l) (by simp) (by rw [sum8_len]; omega) W)
  have HA1 : Hid (∀ W : World, (Op.stringOp .add (tx l) (tx ([115, 117, 109] ++ 32 :: sum8 l))).run Tryd.prog W = .ok (.string (tx (l ++ ([115, 117, 109] ++ 32 :: sum8 l)))) W) := fun W => add_tx W _ _ (by simp [sum8_len]; omega)
  have HA2 : Hid (∀ W : World, (Op.stringOp .add (tx (l ++ ([115, 117, 109] ++ 32 :: sum8 l))) { data := #[10] }).run Tryd.prog W = .ok (.string (tx (seald l))) W) := fun W => add_tx W _ [10] (by simp [sum8_len]; omega)
  rw [hv] at HTX
  obtain ⟨z, hz⟩ : ∃ z, z = (crc l).toNat := ⟨_, rfl⟩
  have hs8 : tx (sum8 l) = tx ((hexl z 16).drop 8) := by rw [hz]; rfl
  rw [← hz] at HTX hzl
  have HX := Lib.hid (fun W => hex_of z (by omega) W)
  have HS8 := Lib.hid (fun W => slice8 z W)
  have hxs : (tx (hexl z 16)).size = 16 := by rw [tx_size, hexl_len]
  have hw : IntKind.u64.wrap (z : Int) = (z : Int) := wrap_n z (by omega)
  rw [← hs8] at HS8
  generalize tx (hexl z 16) = hx at *
  generalize tx (sum8 l) = h8 at *
  generalize tx (l ++ ([115, 117, 109] ++ 32 :: sum8 l)) = q1 at *
  generalize tx (seald l) = q2 at *
  generalize tx ([115, 117, 109] ++ 32 :: sum8 l) = j1 at *
  generalize tx l = s at *
  have hcs := fun (W : World) => run_bytes_of_string (P := Tryd.prog) W 9 39 5 s Tryd.underlying9 Tryd.underlying39 Tryd.underlying5
  have HS := HS8.out
  have A1 := HA1.out
  have A2 := HA2.out
  clear hz hs8 hv hzl
  go_enter Tryd.func18, Tryd.ntmps18
  go_wp2_with fail
  refine (HTX.out _ _ (Below.refl _ _) rfl).mono ?_
  rintro e w1 ⟨rfl, rfl⟩
  go_wp2_with fail
  refine (HX.out _).mono ?_
  rintro e w2 ⟨rfl, hb2⟩
  go_wp2_with fail
  refine (HJ.out _).mono ?_
  rintro e w3 ⟨rfl, hb3⟩
  go_wp2
  go_ret
  exact ⟨rfl, (((((Below.refl _ w).alloc (Nat.le_refl _) _).alloc (by simp) _).drew).trans (hb2.mono (by simp; omega))).trans (hb3.mono (by have := hb2.size; simp at this; omega))⟩

set_option maxRecDepth 100000 in
set_option maxHeartbeats 1000000 in
theorem rsealed_any (l : List UInt8) (hn : l.length ≤ 100000000) (w : World) :
    Calls Tryd.prog 23 #[.string (tx l)] w fun e w' => e = .returned (.string (tx (seald l))) ∧ w = w' := by
  have HR := Lib.hid (fun W => refsum_any l (by omega) W)
  have hzl := (crc l).isLt
  have hv : wv (crc l) = .int .u32 ((crc l).toNat : Int) := rfl
  have HA0 : Hid (∀ W : World, (Op.stringOp .add (tx l) { data := #[115, 117, 109, 32] }).run Tryd.prog W = .ok (.string (tx (l ++ [115, 117, 109, 32]))) W) := fun W => add_tx W _ [115, 117, 109, 32] (by simp; omega)
  have HA1 : Hid (∀ W : World, (Op.stringOp .add (tx (l ++ [115, 117, 109, 32])) (tx (sum8 l))).run Tryd.prog W = .ok (.string (tx (l ++ [115, 117, 109, 32] ++ sum8 l))) W) := fun W => add_tx W _ _ (by simp [sum8_len]; omega)
  have HA2 : Hid (∀ W : World, (Op.stringOp .add (tx (l ++ [115, 117, 109, 32] ++ sum8 l)) { data := #[10] }).run Tryd.prog W = .ok (.string (tx (seald l))) W) := fun W => by
    have h := add_tx (P := Tryd.prog) W (l ++ [115, 117, 109, 32] ++ sum8 l) [10] (by simp [sum8_len]; omega)
    rw [show l ++ [115, 117, 109, 32] ++ sum8 l ++ [10] = seald l by unfold seald; simp] at h
    exact h
  rw [hv] at HR
  obtain ⟨z, hz⟩ : ∃ z, z = (crc l).toNat := ⟨_, rfl⟩
  have hs8 : tx (sum8 l) = tx ((hexl z 16).drop 8) := by rw [hz]; rfl
  rw [← hz] at HR hzl
  have HX := Lib.hid (fun W => rhex_of z (by omega) W)
  have HS8 := Lib.hid (fun W => slice8 z W)
  have hw : IntKind.u64.wrap (z : Int) = (z : Int) := wrap_n z (by omega)
  rw [← hs8] at HS8
  generalize tx (hexl z 16) = hx at *
  generalize tx (l ++ [115, 117, 109, 32] ++ sum8 l) = q1 at *
  generalize tx (l ++ [115, 117, 109, 32]) = q0 at *
  generalize tx (seald l) = q2 at *
  generalize tx (sum8 l) = h8 at *
  generalize tx l = s at *
  have HS := HS8.out
  have A0 := HA0.out
  have A1 := HA1.out
  have A2 := HA2.out
  clear hz hs8 hv hzl
  go_enter Tryd.func23, Tryd.ntmps23
  go_wp2_with fail
  refine (HR.out _).mono ?_
  rintro e w1 ⟨rfl, rfl⟩
  go_wp2_with fail
  refine (HX.out _).mono ?_
  rintro e w2 ⟨rfl, rfl⟩
  go_wp2
  go_ret
  exact ⟨rfl, rfl⟩

end Go.Proofs.YtgioknppnfencaaDoor
