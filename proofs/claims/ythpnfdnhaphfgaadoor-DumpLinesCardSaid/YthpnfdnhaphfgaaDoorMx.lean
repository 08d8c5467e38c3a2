/- Texts of one proof, one behind the other. -/
import Derived.Deep.Slices
import Derived.Test.YthpnfdnhaphfgaaDoorRs
import Derived.Laws.Strings2
import Derived.Test.YthpnfdnhaphfgaaDoorSh
import Derived.Test.YthpnfdnhaphfgaaDoorEk
import Derived.Laws.Strings3
import Derived.Lib.Join
import Derived.Test.YthpnfdnhaphfgaaDoorMw
import Derived.Test.YthpnfdnhaphfgaaDoorCd
import Derived.Test.YthpnfdnhaphfgaaDoorDi
import Derived.Test.YthpnfdnhaphfgaaDoorDm
import Derived.Shelf.Strings.Builder1
import Derived.Lib.AppendStr
import Derived.Lib.UnsafeStr
import Derived.ProofKit
import Derived.LaidMore
import Derived.MakeChecks
import Derived.OpenShut
import Derived.Test.YthpnfdnhaphfgaaDoorRows
import Derived.Test.YthpnfdnhaphfgaaDoorCs
import Derived.Lib.AppendIntMem
import Derived.Laws.IdiomStrings
import Derived.Test.YthpnfdnhaphfgaaDoorEe0
import Derived.OrdersHeld
import Derived.Test.YthpnfdnhaphfgaaDoorRl
import Derived.Test.YthpnfdnhaphfgaaDoorEi0
import Derived.Test.YthpnfdnhaphfgaaDoorRu
import Derived.Test.YthpnfdnhaphfgaaDoorRl2
import Derived.Lib.LaidTab
import Derived.Lib.ItoaNum

/- A record that came in, its numbers of 64 bits (for a seat without schema). -/
namespace Go.Proofs.YthpnfdnhaphfgaaDoor
open Go.ChangeShapes Go.WideShapes Go.ChangeAt Go.RowKit Go.Deep

def Nums (r : Rc) (l : List Dp) : Prop := (0 ≤ r.rule ∧ r.rule < 18446744073709551616) ∧ (0 ≤ r.out ∧ r.out < 18446744073709551616) ∧ (0 ≤ r.time ∧ r.time < 18446744073709551616) ∧ ∀ d ∈ l, 0 ≤ d.hash ∧ d.hash < 18446744073709551616

theorem wf64 {z : Int} (h : (Lit.int .u64 z).wf = true) : 0 ≤ z ∧ z < 18446744073709551616 := by
  have hx : 0 ≤ z ∧ z ≤ 18446744073709551615 := by simpa [Lit.wf, IntKind.min, IntKind.max, IntKind.signed, IntKind.bits] using h
  omega

set_option maxRecDepth 100000 in
theorem deps_nums {H : Type} {enc : TypeId × Value → H} {W : World} {fuel : Nat} {A : Option Addr} {n c : Nat} {l : List Dp} {x : DataW H × List MemPlace} (hf : DataW.trod enc Tryd.prog W 0 (fun _ => true) true fuel 23 [.slice A n c] = some x) (hr : Reads W W.heap.size 3 A n (dps l)) : ∀ d ∈ l, 0 ≤ d.hash ∧ d.hash < 18446744073709551616 := by
  have hln : l.length = n := by have := hr.1; rw [dps_len] at this; omega
  rcases Go.Deep.open_slice Tryd.underlying23 hf with ⟨hcs, _⟩ | ⟨ad, n', c', m, k, D, Pl, hcs, _, hl, hmx, hm, _, hi⟩
  · have h1 : n = 0 := by injection hcs with h1; injection h1
    intro d hd
    have : l = [] := List.eq_nil_of_length_eq_zero (by omega)
    rw [this] at hd
    cases hd
  · obtain ⟨rfl, rfl, rfl⟩ : A = some ad ∧ n = n' ∧ c = c' := by
      injection hcs with h1 _
      injection h1 with h2 h3 h4
      exact ⟨h2, h3, h4⟩
    intro d hd
    obtain ⟨i, hlt, hid⟩ := List.mem_iff_getElem.1 hd
    have hid' : l[i]? = some d := by rw [List.getElem?_eq_getElem hlt, hid]
    obtain ⟨_, g, _⟩ := dps_at l i d hid'
    obtain ⟨ad', hae, _, hc⟩ := hr.2 (by omega)
    obtain rfl : ad = ad' := Option.some.inj hae
    have hcell := hc _ _ g
    have hnm : n ≤ m := by rw [hm]; simp; exact hl
    obtain ⟨cs, hcs2, htr⟩ := hi i (by omega)
    rw [c_dep] at hcs2
    obtain ⟨_, _, hat⟩ := World.cells?_some hcs2
    obtain ⟨y0, y1, y2, nn, _, _, g0, g1, g2⟩ := trod_struct3 Tryd.underlying42 htr
    rw [c_str] at g0
    rw [c_u64] at g1
    rw [c_bool] at g2
    obtain ⟨z1, e1, _, w1⟩ := DataW.trod_int Tryd.underlying22 g1
    have h := hat 1 (by omega)
    rw [add_of_add, r_one_at e1] at h
    have h2 : some (Value.int .u64 z1) = some (Value.int .u64 d.hash) := h.symm.trans hcell
    injection h2 with h3
    injection h3 with _ h4
    rw [← h4]
    exact wf64 w1

set_option maxRecDepth 100000 in
theorem rcells_nums {H : Type} {enc : TypeId × Value → H} {W : World} {fuel : Nat} {r : Rc} {A : Option Addr} {n c : Nat} {l : List Dp} {x : DataW H × List MemPlace} (hf : DataW.trod enc Tryd.prog W 0 (fun _ => true) true fuel 25 (rcells r A n c).toList = some x) (hr : Reads W W.heap.size 3 A n (dps l)) : Nums r l := by
  obtain ⟨y0, y1, y2, y3, y4, y5, y6, n', hl, g0, g1, g2, g3, g4, g5, g6⟩ := trod_struct7 Tryd.underlying25 hf
  rw [c_int] at g0
  rw [c_str] at g1
  rw [c_u64] at g2
  rw [c_deps] at g3
  rw [c_u64] at g4
  rw [c_u64] at g5
  obtain ⟨z2, e2, _, w2⟩ := DataW.trod_int Tryd.underlying22 g2
  obtain ⟨z4, e4, _, w4⟩ := DataW.trod_int Tryd.underlying22 g4
  obtain ⟨z5, e5, _, w5⟩ := DataW.trod_int Tryd.underlying22 g5
  have f2 : Value.int .u64 r.rule = .int .u64 z2 := Option.some.inj (r_one_at e2)
  have f4 : Value.int .u64 r.out = .int .u64 z4 := Option.some.inj (r_one_at e4)
  have f5 : Value.int .u64 r.time = .int .u64 z5 := Option.some.inj (r_one_at e5)
  injection f2 with _ f2
  injection f4 with _ f4
  injection f5 with _ f5
  refine ⟨by rw [f2]; exact wf64 w2, by rw [f4]; exact wf64 w4, by rw [f5]; exact wf64 w5, deps_nums (A := A) (n := n) (c := c) g3 hr⟩

set_option maxRecDepth 100000 in
theorem open_recordN {H : Type} {enc : TypeId × Value → H} {W : World} {v : Value} {d : DataW H} {ps : List MemPlace} {r0 : Reach} {b0 : Nat} (hval : Value.okWide Tryd.prog W r0 b0 25 v) (hd : DataW.Trod enc Tryd.prog W 0 (fun _ => true) true 25 v d ps) :
    ∃ (r : Rc) (A : Option Addr) (n c : Nat) (l : List Dp), v = rcv r A n c ∧ n ≤ maxLen ∧ (A = none → c = 0) ∧ Fits r l ∧ Nums r l ∧ Reads W W.heap.size 3 A n (dps l) := by
  obtain ⟨cs, rfl, _⟩ := okWide_struct Tryd.underlying25 hval
  obtain ⟨fuel, hf⟩ := hd
  obtain ⟨r, A, n, c, l, h1, h2, h3, h4, h5⟩ := open_rcells hf
  have e : cs = rcells r A n c := by
    apply Array.ext'
    simpa [Value.cells] using h1
  subst e
  exact ⟨r, A, n, c, l, rfl, h2, h3, h4, rcells_nums hf h5, h5⟩

end Go.Proofs.YthpnfdnhaphfgaaDoor

/- escape.Join of any words (for a seat without escape's law). -/
namespace Go.Proofs.YthpnfdnhaphfgaaDoor
open Go.RowKit

theorem cell_spot {w : World} {a : Addr} {v : Value} (h : w.cell? a = some v) : a = ⟨a.block, a.off, none⟩ := by
  obtain ⟨b, o, s⟩ := a
  cases s with
  | none => rfl
  | some x =>
    unfold World.cell? at h
    split at h
    · simp at h
    · cases h

theorem joinw_data (xs : List (List UInt8)) : Lib.join ((xs.map tx).map (·.data.toList)) ({ data := #[32] } : ByteArray).data.toList = joinw xs := by
  unfold joinw
  congr 1
  rw [List.map_map]
  conv => rhs; rw [← List.map_id xs]
  apply List.map_congr_left
  intro a _
  simp [tx]

set_option maxRecDepth 100000 in
theorem ejoinL_any (L : Option Addr) (n c : Nat) (ws : List (List UInt8)) (hc : n ≤ c) (hn : n ≤ 1000000) (hj : (joinw ws).length ≤ 100000000) (w : World) (hr : Reads w w.heap.size 1 L n (ws.map tsv)) :
    Calls Tryd.prog 26 #[.slice L n c] w fun e w' => e = .returned (.string (tx (joinw ws))) ∧ Below w.heap.size w w' := by
  have hln : ws.length = n := by have := hr.1; simpa using this
  have H : Hid (Calls Tryd.prog 51 #[.slice L n c, .string { data := #[32] }] w fun e w' => e = .returned (.string (tx (joinw ws))) ∧ Below w.heap.size w w') := by
    by_cases h0 : n = 0
    · subst h0
      have : ws = [] := List.eq_nil_of_length_eq_zero hln
      subst this
      refine (Tryd.strings_Join_none L c { data := #[32] } w).mono ?_
      rintro e w' ⟨rfl, rfl⟩
      exact ⟨rfl, Below.refl _ _⟩
    · obtain ⟨ad, rfl, hlt, hcell⟩ := hr.2 (by omega)
      obtain ⟨x0, hx0⟩ : ∃ x0, ws[0]? = some x0 := ⟨_, List.getElem?_eq_getElem (by omega)⟩
      have hsp := cell_spot (show w.cell? ad = some (tsv x0) from by
        have := hcell 0 (tsv x0) (by rw [List.getElem?_map, hx0]; rfl)
        simpa [Addr.add] using this)
      obtain ⟨bk, o, sp⟩ := ad
      have hsp2 : sp = none := congrArg Addr.spot hsp
      subst hsp2
      have h2 := Tryd.strings_Join bk o c (ws.map tx) { data := #[32] } w (fun j x hx => by
        rw [List.getElem?_map] at hx
        obtain ⟨y, hy, rfl⟩ := Option.map_eq_some_iff.1 hx
        have := hcell j (tsv y) (by rw [List.getElem?_map, hy]; rfl)
        rw [show (⟨bk, o, none⟩ : Addr).add j = ⟨bk, o + j, none⟩ from by unfold Addr.add; split <;> simp_all] at this
        exact this) hlt (by simp; omega) (by simp; omega) (by rw [joinw_data]; omega)
      rw [joinw_data, List.length_map, hln] at h2
      exact h2
  clear hr
  go_enter Tryd.func26, Tryd.ntmps26
  go_wp2_with fail
  refine H.out.mono ?_
  rintro e w3 ⟨rfl, hb⟩
  go_wp2
  go_ret
  exact ⟨rfl, hb⟩

theorem joinw_snoc : ∀ (ws : List (List UInt8)) (a : List UInt8), ws ≠ [] → joinw (ws ++ [a]) = joinw ws ++ 32 :: a
  | [], a, h => absurd rfl h
  | [b], a, _ => by
    show joinw (b :: [a]) = _
    rw [joinw_cons b [a] (by simp), joinw_one, joinw_one]
  | b :: c :: ws, a, _ => by
    show joinw (b :: ((c :: ws) ++ [a])) = _
    rw [joinw_cons b _ (by simp), joinw_snoc (c :: ws) a (by simp), joinw_cons b (c :: ws) (by simp)]
    simp
theorem joinw_take : ∀ (ws : List (List UInt8)), (∀ x ∈ ws, x.length ≤ 2000) → (joinw ws).length ≤ 2001 * ws.length
  | [], _ => by simp [joinw_nil]
  | [a], h => by rw [joinw_one]; have := h a (by simp); simp; omega
  | a :: b :: ws, h => by
    have h1 := joinw_take (b :: ws) (fun x hx => h x (by simp [hx]))
    have h2 := h a (by simp)
    rw [joinw_cons a (b :: ws) (by simp), List.length_append, List.length_cons, List.length_cons]
    omega

theorem own_cap {w : World} {base n c size : Nat} {e : TypeId} {A : Option Addr} {xs : List Value} (h : w.ownsRow base e size (.slice A n c) n xs) : n ≤ c := by
  rcases h.2 with ⟨h3, h4⟩ | ⟨g, cap, cur, h3, _, _, hn, _⟩
  · omega
  · injection h3 with _ _ h3
    omega

end Go.Proofs.YthpnfdnhaphfgaaDoor

/- dump.Sealed, and the document's. -/
namespace Go.Proofs.YthpnfdnhaphfgaaDoor
open Go.RowKit

theorem stx_extract (l : List UInt8) (a b : Nat) : (tx l).extract a b = tx ((l.take b).drop a) := by
  apply ByteArray.ext
  simp [tx, ByteArray.data_extract]
  rw [List.drop_take]

theorem join_two (a b : List UInt8) : Lib.join ([tx a, tx b].map (·.data.toList)) ({ data := #[32] } : ByteArray).data.toList = a ++ 32 :: b := by
  simp [Lib.join, List.intercalate, tx]

set_option maxRecDepth 100000 in
theorem ejoin_two (a b : List UInt8) (ha : a.length ≤ 1000) (hb : b.length ≤ 1000) (W : World) :
    Calls Tryd.prog 26 #[.slice (some ⟨W.heap.size, 0, none⟩) 2 2] (W.alloc (.cells #[.string (tx a), .string (tx b)] 9)) fun e w' => e = .returned (.string (tx (a ++ 32 :: b))) ∧ Below W.heap.size W w' := by
  have h2 := Tryd.strings_Join W.heap.size 0 2 [tx a, tx b] { data := #[32] } (W.alloc (.cells #[.string (tx a), .string (tx b)] 9)) (fun j x hx => by
    simp only [World.cell?, World.alloc, Array.getElem?_push_size, Nat.zero_add]
    match j, hx with
    | 0, hx => simpa using hx
    | 1, hx => simpa using hx) (by simp) (by simp) (by simp) (by rw [join_two]; simp; omega)
  rw [join_two] at h2
  have H := Lib.hid h2
  have hb0 := Lib.hid ((Below.refl _ W).alloc (Nat.le_refl _) (.cells #[.string (tx a), .string (tx b)] 9))
  clear h2
  generalize tx a = sa at *
  generalize tx b = sb at *
  go_enter Tryd.func26, Tryd.ntmps26
  go_wp2_with fail
  refine H.out.mono ?_
  rintro e w3 ⟨rfl, hb⟩
  have hb1 := hb0.out.trans (hb.mono (by simp))
  clear hb
  go_wp2
  go_ret
  exact ⟨rfl, hb1⟩

/-- The last eight digits of a text's sum. -/
def sum8 (l : List UInt8) : List UInt8 := (hexl (crc l).toNat 16).drop 8
theorem sum8_len (l : List UInt8) : (sum8 l).length = 8 := by unfold sum8; rw [List.length_drop, hexl_len]
/-- A text with its sum behind. -/
def seald (l : List UInt8) : List UInt8 := (l ++ ([115, 117, 109] ++ 32 :: sum8 l)) ++ [10]
theorem seald_len (l : List UInt8) : (seald l).length = l.length + 13 := by unfold seald; simp [sum8_len]
theorem seald_one {a b : List UInt8} (h : seald a = seald b) : a = b := by
  have hl := congrArg List.length h
  rw [seald_len, seald_len] at hl
  unfold seald at h
  rw [List.append_assoc, List.append_assoc b] at h
  exact List.append_inj_left h (by omega)

theorem hex_of (z : Nat) (hz : z < 4294967296) (W : World) : Calls Tryd.prog 23 #[.int .u64 (z : Int)] W fun e w' => e = .returned (.string (tx (hexl z 16))) ∧ Below W.heap.size W w' := by
  have h := hex_any (BitVec.ofNat 64 z) W
  rw [qv_ofNat (show z < top by unfold top; omega), BitVec.toNat_ofNat, Nat.mod_eq_of_lt (show z < 2 ^ 64 by omega)] at h
  exact h
theorem rhex_of (z : Nat) (hz : z < 4294967296) (W : World) : Calls Tryd.prog 29 #[.int .u64 (z : Int)] W fun e w' => e = .returned (.string (tx (hexl z 16))) ∧ W = w' := by
  have h := refhex_any (BitVec.ofNat 64 z) W
  rw [qv_ofNat (show z < top by unfold top; omega), BitVec.toNat_ofNat, Nat.mod_eq_of_lt (show z < 2 ^ 64 by omega)] at h
  exact h

theorem slice8 (z : Nat) (W : World) : (Instr.slice 9 (.string (tx (hexl z 16))) (some (.int .i64 8)) none none).run Tryd.prog W = .ok (.string (tx ((hexl z 16).drop 8))) W := by
  have hsz : (tx (hexl z 16)).size = 16 := by rw [tx_size, hexl_len]
  have h1 := run_slice_string_from_if (P := Tryd.prog) W 9 (tx (hexl z 16)) .i64 8 Tryd.underlying9
  rw [if_pos (by rw [hsz]; omega), hsz, stx_extract, List.take_of_length_le (by rw [hexl_len]; exact Nat.le_refl _)] at h1
  exact h1

set_option maxRecDepth 100000 in
set_option maxHeartbeats 1000000 in
theorem sealed_any (l : List UInt8) (hn : l.length ≤ 5000) (w : World) (hl : Laid w) :
    Calls Tryd.prog 16 #[.string (tx l)] w fun e w' => e = .returned (.string (tx (seald l))) ∧ Below w.heap.size w w' := by
  have HTX : Hid (∀ W X, Below w.heap.size w W → X = (W.drew.alloc (.cells (bytesRow (tx l) (grownCap W (tx l).size 0 5)) 5 ((bytesRow (tx l) (grownCap W (tx l).size 0 5)).size, (bytesRow (tx l) (grownCap W (tx l).size 0 5)).size + 1))).alloc (.cells #[.slice (some ⟨W.heap.size, 0, none⟩) (tx l).size (grownCap W (tx l).size 0 5)] 53) →
      Calls Tryd.prog 38 #[.slice (some ⟨W.heap.size + 1, 0, none⟩) 1 1] X fun e w' => e = .returned (wv (crc l)) ∧ X = w') := fun W X hb hX => text_sum l (by omega) W (hl.below hb) X hX
  have hzl := (crc l).isLt
  have hv : wv (crc l) = .int .u32 ((crc l).toNat : Int) := rfl
  have HJ := Lib.hid (fun W => ejoin_two [115, 117, 109] (sum8 l) (by simp) (by rw [sum8_len]; omega) W)
  have HA1 : Hid (∀ W : World, (Op.stringOp .add (tx l) (tx ([115, 117, 109] ++ 32 :: sum8 l))).run Tryd.prog W = .ok (.string (tx (l ++ ([115, 117, 109] ++ 32 :: sum8 l)))) W) := fun W => add_tx W _ _ (by simp [sum8_len]; omega)
  have HA2 : Hid (∀ W : World, (Op.stringOp .add (tx (l ++ ([115, 117, 109] ++ 32 :: sum8 l))) { data := #[10] }).run Tryd.prog W = .ok (.string (tx (seald l))) W) := fun W => add_tx W _ [10] (by simp [sum8_len]; omega)
  rw [hv] at HTX
  obtain ⟨z, hz⟩ : ∃ z, z = (crc l).toNat := ⟨_, rfl⟩
  have hs8 : tx (sum8 l) = tx ((hexl z 16).drop 8) := by rw [hz]; rfl
  rw [← hz] at HTX hzl
  have HX := Lib.hid (fun W => hex_of z (by omega) W)
  have HS8 := Lib.hid (fun W => slice8 z W)
  have hxs : (tx (hexl z 16)).size = 16 := by rw [tx_size, hexl_len]
  have hw : IntKind.u64.wrap (z : Int) = (z : Int) := wrap_n z (by omega)
  rw [← hs8] at HS8
  generalize tx (hexl z 16) = hx at *
  generalize tx (sum8 l) = h8 at *
  generalize tx (l ++ ([115, 117, 109] ++ 32 :: sum8 l)) = q1 at *
  generalize tx (seald l) = q2 at *
  generalize tx ([115, 117, 109] ++ 32 :: sum8 l) = j1 at *
  generalize tx l = s at *
  have hcs := fun (W : World) => run_bytes_of_string (P := Tryd.prog) W 9 53 5 s Tryd.underlying9 Tryd.underlying53 Tryd.underlying5
  have HS := HS8.out
  have A1 := HA1.out
  have A2 := HA2.out
  clear hz hs8 hv hzl
  go_enter Tryd.func16, Tryd.ntmps16
  go_wp2_with fail
  refine (HTX.out _ _ (Below.refl _ _) rfl).mono ?_
  rintro e w1 ⟨rfl, rfl⟩
  go_wp2_with fail
  refine (HX.out _).mono ?_
  rintro e w2 ⟨rfl, hb2⟩
  go_wp2_with fail
  refine (HJ.out _).mono ?_
  rintro e w3 ⟨rfl, hb3⟩
  go_wp2
  go_ret
  exact ⟨rfl, (((((Below.refl _ w).alloc (Nat.le_refl _) _).alloc (by simp) _).drew).trans (hb2.mono (by simp; omega))).trans (hb3.mono (by have := hb2.size; simp at this; omega))⟩

set_option maxRecDepth 100000 in
set_option maxHeartbeats 1000000 in
theorem rsealed_any (l : List UInt8) (hn : l.length ≤ 5000) (w : World) :
    Calls Tryd.prog 17 #[.string (tx l)] w fun e w' => e = .returned (.string (tx (seald l))) ∧ w = w' := by
  have HR := Lib.hid (fun W => refsum_any l (by omega) W)
  have hzl := (crc l).isLt
  have hv : wv (crc l) = .int .u32 ((crc l).toNat : Int) := rfl
  have HA0 : Hid (∀ W : World, (Op.stringOp .add (tx l) { data := #[115, 117, 109, 32] }).run Tryd.prog W = .ok (.string (tx (l ++ [115, 117, 109, 32]))) W) := fun W => add_tx W _ [115, 117, 109, 32] (by simp; omega)
  have HA1 : Hid (∀ W : World, (Op.stringOp .add (tx (l ++ [115, 117, 109, 32])) (tx (sum8 l))).run Tryd.prog W = .ok (.string (tx (l ++ [115, 117, 109, 32] ++ sum8 l))) W) := fun W => add_tx W _ _ (by simp [sum8_len]; omega)
  have HA2 : Hid (∀ W : World, (Op.stringOp .add (tx (l ++ [115, 117, 109, 32] ++ sum8 l)) { data := #[10] }).run Tryd.prog W = .ok (.string (tx (seald l))) W) := fun W => by
    have h := add_tx (P := Tryd.prog) W (l ++ [115, 117, 109, 32] ++ sum8 l) [10] (by simp [sum8_len]; omega)
    rw [show l ++ [115, 117, 109, 32] ++ sum8 l ++ [10] = seald l by unfold seald; simp] at h
    exact h
  rw [hv] at HR
  obtain ⟨z, hz⟩ : ∃ z, z = (crc l).toNat := ⟨_, rfl⟩
  have hs8 : tx (sum8 l) = tx ((hexl z 16).drop 8) := by rw [hz]; rfl
  rw [← hz] at HR hzl
  have HX := Lib.hid (fun W => rhex_of z (by omega) W)
  have HS8 := Lib.hid (fun W => slice8 z W)
  have hw : IntKind.u64.wrap (z : Int) = (z : Int) := wrap_n z (by omega)
  rw [← hs8] at HS8
  generalize tx (hexl z 16) = hx at *
  generalize tx (l ++ [115, 117, 109, 32] ++ sum8 l) = q1 at *
  generalize tx (l ++ [115, 117, 109, 32]) = q0 at *
  generalize tx (seald l) = q2 at *
  generalize tx (sum8 l) = h8 at *
  generalize tx l = s at *
  have HS := HS8.out
  have A0 := HA0.out
  have A1 := HA1.out
  have A2 := HA2.out
  clear hz hs8 hv hzl
  go_enter Tryd.func17, Tryd.ntmps17
  go_wp2_with fail
  refine (HR.out _).mono ?_
  rintro e w1 ⟨rfl, rfl⟩
  go_wp2_with fail
  refine (HX.out _).mono ?_
  rintro e w2 ⟨rfl, rfl⟩
  go_wp2
  go_ret
  exact ⟨rfl, rfl⟩

end Go.Proofs.YthpnfdnhaphfgaaDoor

/- A builder's first write; the text of no records; the law's example. -/
namespace Go.Proofs.YthpnfdnhaphfgaaDoor
open Go.RowKit

theorem builder_info : (Tryd.prog.info? 55).map (·.size) = some 2 := by kernel_rfl
theorem builder_lies : liesAt Tryd.prog Tryd.prog.depth 55 (2 / Tryd.prog.cellsOf 55) 0 55 1 = true := by kernel_rfl
theorem byte_info : (Tryd.prog.info? 5).map (fun i => (i.zero, i.size, i.bytes)) = some (some (.int .u8 0), 1, 1) := by kernel_rfl

set_option maxHeartbeats 1000000 in
set_option maxRecDepth 100000 in
theorem check_fresh (b : Nat) (w : World) (h0 : w.cell? ⟨b, 0, none⟩ = some (.pointer none)) (hsh : w.shape? b = some (55, 2)) (hfz : w.frozen? ⟨b, 0, none⟩ = false) :
    Calls Tryd.prog 55 #[.pointer (some ⟨b, 0, none⟩)] w fun e w' => e = .returned (.tuple #[]) ∧ w' = w.setCell ⟨b, 0, none⟩ (.pointer (some ⟨b, 0, none⟩)) := by
  obtain ⟨j, hj, hjs⟩ := Option.map_eq_some_iff.1 builder_info
  go_enter Tryd.func55, Tryd.ntmps55
  go_wp2
  rw [Lib.run_to_unsafe w ⟨b, 0, none⟩ Tryd.underlying52 Tryd.underlying93 hj (by rw [hjs]; decide) hsh (Nat.zero_lt_succ 1)]
  simp only [Result.andThen]
  rw [Oper.upon_value]
  go_wp2
  rw [run_callFunc_extern Tryd.func72 (by kernel_rfl) (by kernel_rfl) (by kernel_rfl) (e := Extern.AbiNoEscape.same) (by kernel_rfl)]
  rw [Lib.run_noEscape]
  simp only [Result.andThen]
  rw [Oper.upon_value]
  go_wp2
  rw [Lib.run_from_unsafe w ⟨b, 0, none⟩ Tryd.underlying93 Tryd.underlying52 hj hsh builder_lies]
  simp only [Result.andThen]
  rw [Oper.upon_value]
  go_wp2
  go_end0
  exact ⟨rfl, rfl⟩

set_option maxHeartbeats 2000000 in
set_option maxRecDepth 100000 in
theorem write_fresh (B b : Nat) (s : ByteArray) (w : World) (h : Lib.BuilderAt 55 5 B b (.pointer none) [] w) (hlen : s.size ≤ 1000000) (hBw : B ≤ w.heap.size) :
    Calls Tryd.prog 33 #[.pointer (some ⟨b, 0, none⟩), .string s] w fun e w' => e = .returned (.tuple #[.int .i64 s.size, .nilIface]) ∧ (Lib.BuilderAt 55 5 B b (.pointer (some ⟨b, 0, none⟩)) (Lib.strCells s) w' ∧ Below B w w') := by
  obtain ⟨i0, hi, hz0, hz1, hz2⟩ := info_parts byte_info
  have hcc := check_fresh b w h.cell0 h.shape h.frozen0
  have HU := Lib.hid (h.used (.pointer (some ⟨b, 0, none⟩)))
  have hB1 := Lib.hid ((Below.refl B w).setCell (p := ⟨b, 0, none⟩) h.1 (.pointer (some ⟨b, 0, none⟩)))
  have HC := Lib.hid hcc
  clear hcc h
  go_enter Tryd.func33, Tryd.ntmps33
  go_wp2_with fail
  refine HC.out.mono ?_
  rintro e w1 ⟨rfl, hw1⟩
  rw [← hw1] at HU hB1
  clear hw1 HC
  obtain ⟨hB, v, hbk, hown, hne⟩ := HU.out
  have hb1 := hB1.out
  have c0 : w1.cell? ⟨b, 0, none⟩ = some (.pointer (some ⟨b, 0, none⟩)) := by rw [Lib.cell_of_heap hbk]; rfl
  have c1 : w1.cell? ⟨b, 1, none⟩ = some v := by rw [Lib.cell_of_heap hbk]; rfl
  go_wp2_with (at_builtin; refine Lib.wpList_append_own_string _ rfl _ _ 53 9 rfl B 5 i0 Tryd.underlying53 Tryd.underlying9 hi hz0 hz1 hz2 _ _ _ rfl hown s rfl ?c3 ?c4 ?c5 ?_)
  case c3 => unfold maxLen; simp; omega
  case c4 => simp; omega
  case c5 => have := hb1.size; omega
  intro v' w2 hown' hgrow _
  have hlt : b < w1.heap.size := by
    rcases Nat.lt_or_ge b w1.heap.size with h' | h'
    · exact h'
    · simp [Array.getElem?_eq_none h'] at hbk
  have hb2 : w2.heap[b]? = some (.cells #[.pointer (some ⟨b, 0, none⟩), v] 55 (0, 0)) := by
    rw [hgrow.block b hlt (fun e => hne e.symm)]
    exact hbk
  have d0 : w2.cell? ⟨b, 0, none⟩ = some (.pointer (some ⟨b, 0, none⟩)) := by rw [Lib.cell_of_heap hb2]; rfl
  have d1 : w2.cell? ⟨b, 1, none⟩ = some v := by rw [Lib.cell_of_heap hb2]; rfl
  have f1 : w2.frozen? ⟨b, 1, none⟩ = false := Lib.frozen_of_heap hb2 1
  obtain ⟨ao, n', cap, rfl⟩ : ∃ ao n' cap, v' = .slice ao n' cap := by
    rcases hown'.2 with ⟨hv, _⟩ | ⟨g, cap, cur, hv, _⟩
    · exact ⟨_, _, _, hv⟩
    · exact ⟨_, _, _, hv⟩
  go_wp2
  go_ret2
  refine ⟨rfl, ?_, ?_⟩
  · exact Lib.BuilderAt.put (T := 55) (e := 5) hB hb2 (bs' := Lib.strCells s) (by simpa [Lib.strCells_length] using hown') (by decide)
  · exact (hb1.grown hgrow (by have := hb1.size; omega) (fun k hk => (hown.lt k hk).1)).setCell (p := ⟨b, 1, none⟩) hB _

theorem fresh_builder (w : World) : Lib.BuilderAt 55 5 w.heap.size w.heap.size (.pointer none) [] (w.alloc (.cells #[.pointer none, .slice none 0 0] 55)) :=
  ⟨Nat.le_refl _, .slice none 0 0, one_new w _, World.ownsRow_nil _ _ _ _, by simp [Value.ownBlock]⟩
theorem builder_below {T e : TypeId} {B b : Nat} {p : Value} {bs : List Value} {w w' : World} (h : Lib.BuilderAt T e B b p bs w) (hb : Below w.heap.size w w') : Lib.BuilderAt T e B b p bs w' := by
  have hlt := h.lt
  obtain ⟨hB, v, hk, hown, hne⟩ := h
  exact ⟨hB, v, (hb.block b hlt).trans hk, own_below hown hb, hne⟩

theorem right_nil (w : World) : Calls Tryd.prog 32 #[.slice none 0 0] w fun e w' => e = .returned (.bool true) ∧ w = w' := by
  go_enter Tryd.func32, Tryd.ntmps32
  go_wp2
  go_loopw [7] (fun v wr => v = .int .i64 0 ∧ w = wr) (fun _ _ => 0)
  case atStart => exact ⟨rfl, rfl⟩
  case round =>
    obtain ⟨rfl, rfl⟩ := hrel
    go_wp2
    go_ret
    exact ⟨rfl, rfl⟩

/-- The first line of no records. -/
def line0 : List UInt8 := [116, 101, 112, 104, 114, 97, 32, 48, 10]

theorem itoa0 (W : World) : Calls Tryd.prog 34 #[.int .i64 0] W fun e w' => e = .returned (.string { data := #[48] }) ∧ w' = W := by
  have h := Tryd.strconv_Itoa_small 0 (by omega) W
  rw [show Lib.decDigits 0 = [48] by unfold Lib.decDigits; simp] at h
  exact h
theorem join0 (W : World) : Calls Tryd.prog 26 #[.slice (some ⟨W.heap.size, 0, none⟩) 2 2] (W.alloc (.cells #[.string { data := #[116, 101, 112, 104, 114, 97] }, .string { data := #[48] }] 9)) fun e w' => e = .returned (.string { data := #[116, 101, 112, 104, 114, 97, 32, 48] }) ∧ Below W.heap.size W w' := ejoin_two [116, 101, 112, 104, 114, 97] [48] (by simp) (by simp) W
theorem add0 (W : World) : (Op.stringOp .add { data := #[116, 101, 112, 104, 114, 97, 32, 48] } { data := #[10] }).run Tryd.prog W = .ok (.string (tx line0)) W := add_tx W [116, 101, 112, 104, 114, 97, 32, 48] [10] (by simp)
theorem line0_cells : Lib.strCells (tx line0) = Lib.byteCells line0 := rfl
theorem line0_string (B b : Nat) (W : World) (h : Lib.IsBuilder 55 5 B b (Lib.byteCells line0) W) (h2 : B ≤ W.heap.size) : Calls Tryd.prog 35 #[.pointer (some ⟨b, 0, none⟩)] W fun e w' => e = .returned (.string (tx line0)) ∧ Below B W w' := Tryd.Builder_String_any B b line0 W h h2
theorem line0_size : (tx line0).size = 9 := rfl

set_option maxHeartbeats 1000000 in
set_option maxRecDepth 100000 in
theorem text_nil (w : World) (hl : Laid w) : Calls Tryd.prog 13 #[.slice none 0 0] w fun e w' => e = .returned (.tuple #[.string (tx (seald line0)), .int .i64 0]) ∧ Below w.heap.size w w' := by
  have HR := Lib.hid (fun W => right_nil W)
  have HI := Lib.hid itoa0
  have hj := join0 (w.alloc (.cells #[.pointer none, .slice none 0 0] 55))
  rw [World.size_alloc] at hj
  have HJ := Lib.hid hj
  clear hj
  have hadd := add0
  have HB0 := Lib.hid (fresh_builder w)
  have HW0 := Lib.hid ((Below.refl _ w).alloc (Nat.le_refl _) (.cells #[.pointer none, .slice none 0 0] 55))
  have HCELLS := Lib.hid line0_cells
  have hsz := line0_size
  have HL := Lib.hid hl
  have HSE := Lib.hid (fun W h => sealed_any line0 (by decide) W h)
  have HST := Lib.hid line0_string
  generalize tx (seald line0) = q at *
  generalize tx line0 = s at *
  generalize Lib.byteCells line0 = lc at *
  clear hl
  go_enter Tryd.func13, Tryd.ntmps13
  go_wp2_with fail
  refine (HR.out _).mono ?_
  rintro e w1 ⟨rfl, rfl⟩
  go_wp2_with fail
  refine (HI.out _).mono ?_
  rintro e w2 ⟨rfl, rfl⟩
  go_wp2_with fail
  refine HJ.out.mono ?_
  rintro e w3 ⟨rfl, hb3⟩
  have HB3 := Lib.hid (builder_below HB0.out (by rw [World.size_alloc]; exact hb3))
  have HW3 := Lib.hid (HW0.out.trans (hb3.mono (by omega)))
  clear hb3
  go_wp2_with fail
  refine (write_fresh w.heap.size w.heap.size _ w3 HB3.out (by rw [hsz]; omega) HW3.out.size).mono ?_
  rintro e w4 ⟨rfl, hb4, hw4⟩
  rw [HCELLS.out] at hb4
  have HB4 := Lib.hid hb4
  have HW4 := Lib.hid (HW3.out.trans hw4)
  clear hb4 hw4
  go_wp2
  go_loopw [21] (fun v wr => v = .int .i64 0 ∧ w4 = wr) (fun _ _ => 0)
  case atStart => exact ⟨rfl, rfl⟩
  case round =>
    obtain ⟨rfl, rfl⟩ := hrel
    go_wp2_with fail
    refine (HST.out w.heap.size w.heap.size _ (.inr HB4.out) HW4.out.size).mono ?_
    rintro e w5 ⟨rfl, hb5⟩
    have HW5 := Lib.hid (HW4.out.trans hb5)
    clear hb5
    go_wp2_with fail
    refine (HSE.out _ (HL.out.below HW5.out)).mono ?_
    rintro e w6 ⟨rfl, hb6⟩
    have hw6 := HW5.out.trans (hb6.mono HW5.out.size)
    clear hb6
    go_wp2
    go_ret2
    exact ⟨rfl, hw6⟩

set_option maxHeartbeats 1000000 in
set_option maxRecDepth 100000 in
theorem dfixed_any (w : World) (hl : Laid w) : Calls Tryd.prog 8 #[] w fun e w' => e = .returned (.bool true) ∧ Below w.heap.size w w' := by
  have HT := Lib.hid (text_nil w hl)
  have HP : Hid (∀ W, Calls Tryd.prog 19 #[.string (tx (seald line0)), .string { data := #[116, 101, 112, 104, 114, 97, 32, 48, 10, 115, 117, 109, 32] }] W fun e w' => e = .returned (.bool true) ∧ w' = W) := fun W => by
    have h := Tryd.strings_HasPrefix (tx (seald line0)) { data := #[116, 101, 112, 104, 114, 97, 32, 48, 10, 115, 117, 109, 32] } W
    rw [show Lib.hasPrefix (tx (seald line0)).data.toList ({ data := #[116, 101, 112, 104, 114, 97, 32, 48, 10, 115, 117, 109, 32] } : ByteArray).data.toList = true by
      show List.isPrefixOf _ _ = true
      rw [List.isPrefixOf_iff_prefix]
      exact ⟨sum8 line0 ++ [10], by simp [seald, line0, tx]⟩] at h
    exact h
  have hsz : (tx (seald line0)).size = 22 := by rw [tx_size, seald_len]; rfl
  generalize tx (seald line0) = q at *
  clear hl
  go_enter Tryd.func8, Tryd.ntmps8
  go_wp2_with fail
  refine HT.out.mono ?_
  rintro e w1 ⟨rfl, hb1⟩
  go_wp2_with fail
  refine (HP.out _).mono ?_
  rintro e w2 ⟨rfl, rfl⟩
  go_wp2
  go_ret
  exact ⟨rfl, hb1⟩

end Go.Proofs.YthpnfdnhaphfgaaDoor

/- The way down: the table of crc among those that are listed. -/
namespace Go.Proofs.YthpnfdnhaphfgaaDoor
open Go.ChangeShapes Go.WideShapes Go.ChangeAt Go.RowKit

theorem gHalves : Tryd.prog.globalNamed "tephra/crc.halves" = some 0 := by kernel_rfl
theorem tHalves : (Tryd.prog.globals[0]?).map (·.type) = some 78 := by kernel_rfl
theorem cells25 : Tryd.prog.cellsOf 63 = 1 := by kernel_rfl

theorem ints_of_vars {P : Program} {W : World} {n : String} {g len : Nat} {t e : TypeId} {k : IntKind} {zs : List Int} {l : List (String × DataW Unit)} {ps : List MemPlace} (hg : P.globalNamed n = some g) (ht0 : (P.globals[g]?).map (·.type) = some t)
    (ht : P.underlying t = some (.array len e)) (he : P.underlying e = some (.int k)) (hc : P.cellsOf e = 1) (h : DataW.LaidVars P W ((n, .agg (zs.map fun z => .lit (.int k z))) :: l) ps) :
    ∀ (i : Nat) (z : Int), zs[i]? = some z → W.cell? ⟨g, i, none⟩ = some (.int k z) := by
  obtain ⟨g', t', cs, fuel, p, q, hg', ht', hvar, hd, _, _⟩ := h
  obtain rfl := Option.some.inj (hg.symm.trans hg')
  obtain rfl := Option.some.inj (ht0.symm.trans ht')
  obtain ⟨xs, m, rfl, hx, hlen, hxl, hel⟩ := DataW.trod_array ht hd
  simp only [Prod.mk.injEq, DataW.agg.injEq] at hx
  intro i z hz
  have h1 : (xs.map (·.1))[i]? = some (.lit (.int k z)) := by rw [← hx.1, List.getElem?_map, hz]; rfl
  rw [List.getElem?_map] at h1
  obtain ⟨y, hy, hy1⟩ := Option.map_eq_some_iff.1 h1
  have hi : i < len := by rw [← hxl]; exact (List.getElem?_eq_some_iff.1 hy).1
  have h2 := hel i hi
  rw [hy, hc, Nat.mul_one] at h2
  obtain ⟨n', e1, e2, _⟩ := DataW.trod_int he h2
  rw [e2] at hy1
  have hnz : n' = z := by simpa using hy1
  subst hnz
  have h3 : cs.toList[i]? = some (.int k n') := by
    have := congrArg (fun l : List Value => l[0]?) e1
    simpa [List.getElem?_take, List.getElem?_drop] using this
  rw [World.var?_cell hg hvar i]
  simpa using h3

theorem laid_tail {P : Program} {W : World} {x : String × DataW Unit} {l : List (String × DataW Unit)} {ps : List MemPlace} (h : DataW.LaidVars P W (x :: l) ps) : ∃ qs, DataW.LaidVars P W l qs := by
  obtain ⟨x1, x2⟩ := x
  obtain ⟨g', t', cs, fuel, p, q, hg', ht', hvar, hd, hq, _⟩ := h
  exact ⟨_, hq⟩

theorem of_laid4 {W : World} (h : laidMetH Tryd.prog [("math/bits.deBruijn32tab", Rows.laid_math_bits_deBruijn32tab), ("math/bits.deBruijn64tab", Rows.laid_math_bits_deBruijn64tab), ("internal/strconv.uint64pow10", Rows.laid_internal_strconv_uint64pow10), ("tephra/crc.halves", Rows.laid_tephra_crc_halves)] W) : Laid W := by
  rw [MakeChecks.laidMetH_plain _ _ _ (by kernel_rfl)] at h
  obtain ⟨ps, h0, _⟩ := h
  obtain ⟨_, h1⟩ := laid_tail h0
  obtain ⟨_, h2⟩ := laid_tail h1
  obtain ⟨_, h3⟩ := laid_tail h2
  have h4 := ints_of_vars (zs := tab.map (fun n : Nat => (n : Int))) gHalves tHalves Tryd.underlying78 Tryd.underlying63 cells25 h3
  intro i hi
  refine h4 i (tabN i) ?_
  have : ∀ j : Fin 16, (tab.map (fun n : Nat => (n : Int)))[j.val]? = some ((tabN j.val : Nat) : Int) := by decide
  exact this ⟨i, hi⟩

end Go.Proofs.YthpnfdnhaphfgaaDoor

/- Numbers in decimal digits: strconv.FormatUint at 10, and the document's Digits. -/
namespace Go.Proofs.YthpnfdnhaphfgaaDoor
open Go.Sort Go.RowKit

def PowTab (w : World) : Prop := Lib.TabIs Tryd.prog w "internal/strconv.uint64pow10" .u64 Lib.pow10Tab

theorem below_grow (w : World) (k : Nat) (os : Array Obj) : Below w.heap.size w (grow (w.drewN k) os) :=
  ⟨rfl, rfl, rfl, by show w.heap.size ≤ (w.heap ++ os).size; simp, fun b hb => Lib.heap_grow_old w k os b hb⟩

set_option maxRecDepth 100000 in
set_option maxHeartbeats 1000000 in
theorem ifmt_any (u : Nat) (hu64 : u < 18446744073709551616) (w : World) (htab : PowTab w) :
    Calls Tryd.prog 50 #[.int .u64 (u : Int), .int .i64 10] w fun e w' => e = .returned (.string (tx (Lib.decDigits u))) ∧ Below w.heap.size w w' := by
  by_cases hs : u < 100
  · have HSM := Lib.hid (fun W => Tryd.internal_strconv_small u hs W)
    have hw : IntKind.i64.wrap (u : Int) = (u : Int) := by rw [IntKind.wrap_i64]; omega
    have hui : (u : Int) < 100 := by omega
    go_enter Tryd.func50, Tryd.ntmps50
    go_wp2_with fail
    refine (HSM.out _).mono ?_
    rintro e w1 ⟨rfl, rfl⟩
    go_wp2
    go_ret
    exact ⟨rfl, Below.refl _ _⟩
  · have hu1 : 1 ≤ u := by omega
    have hui : ¬ (u : Int) < 100 := by omega
    have hnd20 : Lib.nDigits u ≤ 20 := by have := Lib.numDigits_eq u hu1 hu64; split at this <;> omega
    have hH0 := Lib.holds_zero0 w 85 (Lib.nDigits u) (by omega)
    have hfmt := Tryd.internal_strconv_formatBase10 w.heap.size 0 24 u (Array.replicate (Lib.nDigits u) 0) (w.alloc (.cells Lib.zeros24 85)) hH0 (by rw [Array.size_replicate]; exact Lib.lt_pow_nDigits u) hu64 (by rw [Array.size_replicate]; omega)
    rw [Array.size_replicate] at hfmt
    have hal : Tryd.prog.arrayLen 85 = 24 := by kernel_rfl
    have hsl2 : ∀ W, (Instr.sliceAt 85 (.pointer (some ⟨w.heap.size, 0, none⟩)) none (some (.int .i64 (Lib.nDigits u : Int))) none).run Tryd.prog W = .ok (.slice (some ⟨w.heap.size, 0, none⟩) (Lib.nDigits u) 24) W := fun W => by
      rw [run_sliceAt_array_h W 85 ⟨w.heap.size, 0, none⟩ (by kernel_rfl) .i64 (Lib.nDigits u : Int) (by omega) (by rw [hal]; omega)]
      go_simp
    have HH0 := Lib.hid hH0
    have HFM := Lib.hid hfmt
    have HND := Lib.hid (fun W h => Tryd.internal_strconv_numDigits u hu1 hu64 W h)
    have HTA := Lib.hid (Lib.tabIs_alloc (P := Tryd.prog) htab (.cells Lib.zeros24 85))
    clear hH0 hfmt htab hal
    go_enter Tryd.func50, Tryd.ntmps50
    go_wp2_with fail
    refine (HND.out _ HTA.out).mono ?_
    rintro e w1 ⟨rfl, rfl⟩
    go_wp2_with fail
    refine HFM.out.mono ?_
    rintro e w' ⟨rfl, k, v', dk, rfl, hF⟩
    have hcv : (convert 53 9 (.slice (some ⟨w.heap.size, 0, none⟩) (Lib.nDigits u) 24)).run Tryd.prog ((putRow (fun (b : UInt8) => Value.int .u8 (b.toNat : Int)) (w.alloc (.cells Lib.zeros24 85)) w.heap.size 0 dk).drewN k) = .ok (.string (tx (Lib.decDigits u))) ((putRow (fun (b : UInt8) => Value.int .u8 (b.toNat : Int)) (w.alloc (.cells Lib.zeros24 85)) w.heap.size 0 dk).drewN k) := by
      have h := run_convert_bytes_back (P := Tryd.prog) ((putRow (fun (b : UInt8) => Value.int .u8 (b.toNat : Int)) (w.alloc (.cells Lib.zeros24 85)) w.heap.size 0 dk).drewN k) 53 9 5 ⟨w.heap.size, 0, none⟩ 24 (Lib.decDigits u) Tryd.underlying53 Tryd.underlying5 Tryd.underlying9 (fun j hj => by
        rw [Lib.row_is_numeral hF j hj, Lib.add_plain, World.cell?_drewN]
        exact cell?_putRow (fun (b : UInt8) => Value.int .u8 (b.toNat : Int)) _ w.heap.size 0 _ dk HH0.out (by rw [hF.size, Array.size_replicate]) j (by rw [hF.size]; rw [Lib.decDigits_length] at hj; exact hj))
      rw [Lib.decDigits_length] at h
      exact h
    obtain ⟨os, eo⟩ := Lib.fin_at w (.cells Lib.zeros24 85) dk k 0
    have HB := Lib.hid (below_grow w k os)
    rw [← eo] at HB
    clear eo HFM HND HTA
    go_wp2
    go_ret
    exact ⟨rfl, HB.out⟩

set_option maxRecDepth 100000 in
theorem fmt_any (u : Nat) (hu64 : u < 18446744073709551616) (w : World) (htab : PowTab w) :
    Calls Tryd.prog 24 #[.int .u64 (u : Int), .int .i64 10] w fun e w' => e = .returned (.string (tx (Lib.decDigits u))) ∧ Below w.heap.size w w' := by
  have H := Lib.hid (ifmt_any u hu64 w htab)
  go_enter Tryd.func24, Tryd.ntmps24
  go_wp2_with fail
  refine H.out.mono ?_
  rintro e w1 ⟨rfl, hb⟩
  go_wp2
  go_ret
  exact ⟨rfl, hb⟩

theorem dig_piece (m : Nat) (hm : m < 10) : ({ data := #[48, 49, 50, 51, 52, 53, 54, 55, 56, 57] } : ByteArray).extract m (m + 1) = tx [UInt8.ofNat (48 + m)] := by
  have : ∀ j : Fin 10, ({ data := #[48, 49, 50, 51, 52, 53, 54, 55, 56, 57] } : ByteArray).extract j.val (j.val + 1) = tx [UInt8.ofNat (48 + j.val)] := by decide
  exact this ⟨m, hm⟩

theorem dec_small {u : Nat} (h : u < 10) : Lib.decDigits u = [UInt8.ofNat (48 + u)] := by unfold Lib.decDigits; rw [dif_pos h]
theorem dec_big {u : Nat} (h : ¬ u < 10) : Lib.decDigits u = Lib.decDigits (u / 10) ++ Lib.decDigits (u % 10) := by
  rw [dec_small (show u % 10 < 10 by omega)]
  conv => lhs; unfold Lib.decDigits; rw [dif_neg h]

set_option maxRecDepth 100000 in
set_option maxHeartbeats 1000000 in
theorem digits_any (u : Nat) (hu64 : u < 18446744073709551616) (w : World) :
    Calls Tryd.prog 30 #[.int .u64 (u : Int)] w fun e w' => e = .returned (.string (tx (Lib.decDigits u))) ∧ w = w' := by
  induction u using Nat.strongRecOn generalizing w with
  | _ u ih =>
    by_cases hs : u < 10
    · have hsl : ∀ W, (Instr.slice 9 (.string { data := #[48, 49, 50, 51, 52, 53, 54, 55, 56, 57] }) (some (.int .u64 (u : Int))) (some (.int .u64 ((u : Int) + 1))) none).run Tryd.prog W = .ok (.string (tx (Lib.decDigits u))) W := fun W => by
        have h1 := run_slice_string (P := Tryd.prog) W 9 { data := #[48, 49, 50, 51, 52, 53, 54, 55, 56, 57] } .u64 .u64 (u : Int) ((u : Int) + 1) Tryd.underlying9 (by omega) (by omega) (by show ((u : Int) + 1) ≤ 10; omega)
        rw [h1, Int.toNat_natCast, show ((u : Int) + 1).toNat = u + 1 by omega, dig_piece u hs, dec_small hs]
      have hw : IntKind.u64.wrap ((u : Int) + 1) = (u : Int) + 1 := by rw [IntKind.wrap_u64]; omega
      have hui : (u : Int) < 10 := by omega
      clear ih
      go_enter Tryd.func30, Tryd.ntmps30
      go_wp2
      go_ret
      exact ⟨rfl, rfl⟩
    · have h1 := Lib.hid (fun W => ih (u / 10) (by omega) (by omega) W)
      have h2 := Lib.hid (fun W => ih (u % 10) (by omega) (by omega) W)
      have hln : (Lib.decDigits (u / 10)).length ≤ 30 := by
        have h3 := Lib.numDigits_eq (u / 10) (by omega) (by omega)
        rw [Lib.decDigits_length]
        split at h3 <;> omega
      have hadd : ∀ W : World, (Op.stringOp .add (tx (Lib.decDigits (u / 10))) (tx (Lib.decDigits (u % 10)))).run Tryd.prog W = .ok (.string (tx (Lib.decDigits u))) W := fun W => by
        rw [dec_big hs]
        exact add_tx W _ _ (by rw [dec_small (show u % 10 < 10 by omega)]; simp; omega)
      obtain ⟨q, hq⟩ : ∃ q, q = u / 10 := ⟨_, rfl⟩
      obtain ⟨r, hr⟩ : ∃ r, r = u % 10 := ⟨_, rfl⟩
      have k1 : (u : Int) / 10 = (q : Int) := by omega
      have k2 : (u : Int) % 10 = (r : Int) := by omega
      have k3 := wrap_n q (by omega)
      have k4 := wrap_n r (by omega)
      have hui : ¬ (u : Int) < 10 := by omega
      rw [← hq] at h1 hadd
      rw [← hr] at h2 hadd
      clear ih hln hq hr
      generalize tx (Lib.decDigits u) = s at *
      generalize tx (Lib.decDigits q) = s1 at *
      generalize tx (Lib.decDigits r) = s2 at *
      go_enter Tryd.func30, Tryd.ntmps30
      go_wp2_with fail
      refine (h1.out _).mono ?_
      rintro e w1 ⟨rfl, rfl⟩
      go_wp2_with fail
      refine (h2.out _).mono ?_
      rintro e w2 ⟨rfl, rfl⟩
      go_wp2
      go_ret
      exact ⟨rfl, rfl⟩

end Go.Proofs.YthpnfdnhaphfgaaDoor

/- dump: what gathers words; a dep's second word. -/
namespace Go.Proofs.YthpnfdnhaphfgaaDoor
open Go.RowKit

/-- append looks at its second type for one thing alone. -/
theorem append_types {P : Program} (t t2 e e2 ty : TypeId) (v x : Value) (w : World) (hv : ∃ b n c, v = .slice b n c) (h : P.underlying t = some (.slice e)) (h2 : P.underlying t2 = some (.slice e2)) :
    (Builtin.append_ #[t, t2] ty #[v, x]).run P w = (Builtin.append_ #[t, t] ty #[v, x]).run P w := by
  obtain ⟨b, n, c, rfl⟩ := hv
  unfold Builtin.append_
  simp only [List.getElem?_toArray, List.getElem?_cons_zero, List.getElem?_cons_succ, Sem.run_bind, run_underlying h, Result.andThen_ok]
  cases hz : (sizeOf e).run P w with
  | ok q w2 => simp [Result.andThen, Sem.run_bind, run_underlying h2]
  | halt q w2 => simp [Result.andThen]
theorem wp_append_two {P : Program} {w : World} {o : Oper} {a : Act} {K : Act → World → Prop} {Q : Exit → Act → World → Prop} (s x : Operand) (t t2 e2 : TypeId) (ht2 : P.underlying t2 = some (.slice e2))
    (ho : o.op = .call { callee := .builtin .append, args := #[s, x], argTypes := #[t, t2] })
    (base : Nat) (e : TypeId) (i : TypeInfo) (z : Value) (size bytes : Nat) (ht : P.underlying t = some (.slice e)) (hi : P.info? e = some i) (hz : i.zero = some z)
    (hsize : i.size = size) (hby : i.bytes = bytes) (hzs : z.cells.size = size) (hsz : 0 < size)
    (v : Value) (n : Nat) (xs : List Value) (hs : a.eval s = v) (hown : w.ownsRow base e size v n xs)
    (A : Option Addr) (m c B : Nat) (news : List Value) (hx : a.eval x = .slice A m c) (hA : A = none → c = 0) (hr : Reads w B size A m news) (h1 : ∀ u ∈ news, u.oneCell' = true)
    (h63 : n + m ≤ maxLen) (hbytes : (n + m) * bytes ≤ 140737488355328) (hbase : base ≤ w.heap.size)
    (h : ∀ v' w', w'.ownsRow base e size v' (n + m) (xs ++ news) → w.grownBy w' v.ownBlock → (v'.ownBlock = v.ownBlock ∨ v'.ownBlock = some w.heap.size) → K (a.put o.dst v') w') : o.wp P a w K Q := by
  cases A with
  | none =>
    have hm : m = 0 := by
      rcases Nat.eq_zero_or_pos m with h0 | h0
      · exact h0
      · obtain ⟨ad, e, _⟩ := hr.2 h0
        cases e
    subst hm
    have hc := hA rfl
    subst hc
    have hnews : news = [] := List.eq_nil_of_length_eq_zero (by have := hr.1; simpa using this)
    subst hnews
    have hrun := (append_types t t2 e e2 o.type v (.slice none 0 0) w (by obtain ⟨A, c, e, _⟩ := own_slice hown; exact ⟨A, n, c, e⟩) ht ht2).trans (run_append_owned_none (P := P) (w := w) base t o.type e i size ht hi v n xs hown)
    unfold Oper.wp
    simp [execOp, ho, resolve, invoke, builtin, hs, hx, hrun, Result.andThen]
    exact h v w (by simpa using hown) (World.grownBy.refl w _) (.inl rfl)
  | some ad =>
    obtain ⟨v', w', hr', h2, h3, _, h5⟩ := run_append_own_at (P := P) w base t o.type e i z size bytes ht hi hz hsize hby hzs hsz v n xs hown ad m c news hr.1 (by
      intro j u hu
      by_cases h0 : 0 < m
      · obtain ⟨ad', e, _, hc⟩ := hr.2 h0
        cases e
        exact hc j u hu
      · have hl := hr.1
        have := (List.getElem?_eq_some_iff.1 hu).1
        have h00 : m = 0 := by omega
        subst h00
        omega) h1 h63 hbytes hbase
    have hr'' := (append_types t t2 e e2 o.type v (.slice (some ad) m c) w (by obtain ⟨A, c, e, _⟩ := own_slice hown; exact ⟨A, n, c, e⟩) ht ht2).trans hr'
    unfold Oper.wp execOp
    simp only [ho, resolve, invoke, builtin, Sem.run_bind, Sem.run_pure, Result.andThen_ok, List.map_toArray, List.map_cons, List.map_nil, hs, hx, hr'']
    exact h v' w' h2 h3 h5
theorem wpList_append_two {P : Program} (w : World) {ops : Array Oper} {rest : List Oper} {o : Oper} {a : Act} {Q : Exit → Act → World → Prop} (hgd : o.guard = none) (s x : Operand) (t t2 e2 : TypeId) (ht2 : P.underlying t2 = some (.slice e2))
    (ho : o.op = .call { callee := .builtin .append, args := #[s, x], argTypes := #[t, t2] })
    (base : Nat) (e : TypeId) (i : TypeInfo) (z : Value) (size bytes : Nat) (ht : P.underlying t = some (.slice e)) (hi : P.info? e = some i) (hz : i.zero = some z)
    (hsize : i.size = size) (hby : i.bytes = bytes) (hzs : z.cells.size = size) (hsz : 0 < size)
    (v : Value) (n : Nat) (xs : List Value) (hs : a.eval s = v) (hown : w.ownsRow base e size v n xs)
    (A : Option Addr) (m c B : Nat) (news : List Value) (hx : a.eval x = .slice A m c) (hA : A = none → c = 0) (hr : Reads w B size A m news) (h1 : ∀ u ∈ news, u.oneCell' = true)
    (h63 : n + m ≤ maxLen) (hbytes : (n + m) * bytes ≤ 140737488355328) (hbase : base ≤ w.heap.size)
    (h : ∀ v' w', w'.ownsRow base e size v' (n + m) (xs ++ news) → w.grownBy w' v.ownBlock → (v'.ownBlock = v.ownBlock ∨ v'.ownBlock = some w.heap.size) → wpList P ops Q rest (a.put o.dst v') w') : wpList P ops Q (o :: rest) a w := by
  refine wpList_plain hgd fun K hK => ?_
  exact wp_append_two s x t t2 e2 ht2 ho base e i z size bytes ht hi hz hsize hby hzs hsz v n xs hs hown A m c B news hx hA hr h1 h63 hbytes hbase (fun v' w' a b c => hK _ _ (h v' w' a b c))
theorem sinfo : (Tryd.prog.info? 9).map (fun i => (i.zero, i.size, i.bytes)) = some (some (.string { data := #[] }), 1, 16) := by kernel_rfl

/-- A variable in block g holds words of the call's own. -/
def Gx (w : World) (base g : Nat) (ws : List (List UInt8)) : Prop :=
  base ≤ g ∧ ∃ v, w.heap[g]? = some (.cells #[v] 45 (0, 0)) ∧ w.ownsRow base 9 1 v ws.length (ws.map tsv)

theorem Gx.below {w w' : World} {base g : Nat} {ws : List (List UInt8)} (h : Gx w base g ws) (hb : Below w.heap.size w w') : Gx w' base g ws := by
  obtain ⟨h0, v, h1, h2⟩ := h
  exact ⟨h0, v, (hb.block g (Array.getElem?_eq_some_iff.1 h1).1).trans h1, own_below h2 hb⟩

set_option maxRecDepth 100000 in
set_option maxHeartbeats 400000 in
theorem wadd_any (base g : Nat) (ws xs : List (List UInt8)) (A : Option Addr) (n c : Nat) (hn : n ≤ 10) (hws : ws.length ≤ 1000) (w : World) (hB : Gx w base g ws) (hA : A = none → c = 0) (hr : Reads w w.heap.size 1 A n (xs.map tsv)) :
    Calls Tryd.prog 21 #[.pointer (some ⟨g, 0, none⟩), .slice A n c] w fun e w' => e = .returned (.tuple #[]) ∧ Gx w' base g (ws ++ xs) ∧ Below base w w' ∧ ∀ (k : Nat) (cs : Array Value) (t : TypeId) (f : Nat × Nat), w.heap[k]? = some (.cells cs t f) → 9 ≠ t → k ≠ g → w'.heap[k]? = some (.cells cs t f) := by
  obtain ⟨i0, hi, hz0, hz1, hz2⟩ := info_parts sinfo
  have hln : xs.length = n := by have := hr.1; simpa using this
  obtain ⟨h0, v, h1, h2⟩ := hB
  have q0 := at_cell (i := 0) h1 rfl
  have hlt := (Array.getElem?_eq_some_iff.1 h1).1
  have hne : v.ownBlock ≠ some g := own_cells h2 h1 (by decide)
  have H1 := Lib.hid h1
  have H2 := Lib.hid h2
  have HNE := Lib.hid hne
  have HLN := Lib.hid hln
  have HR := Lib.hid hr
  have hbase : base ≤ w.heap.size := by omega
  have h1c : ∀ u ∈ xs.map tsv, u.oneCell' = true := fun u hu => by
    obtain ⟨x, _, rfl⟩ := List.mem_map.1 hu
    rfl
  have H1C := Lib.hid h1c
  clear h1 h2 hne hln hr h1c
  go_enter Tryd.func21, Tryd.ntmps21
  go_wp2_with (at_builtin; refine wpList_append_two _ rfl (.tmp 7) (.tmp 8) 45 44 9 Tryd.underlying44 rfl base 9 i0 _ 1 16 Tryd.underlying45 hi hz0 hz1 hz2 rfl (by decide) _ ws.length _ rfl H2.out A n c w.heap.size (xs.map tsv) rfl hA HR.out H1C.out (by unfold maxLen; omega) (by omega) hbase ?_; intro v1 w1 ho1 hg1 hv1; obtain ⟨A1, c1, rfl, _⟩ := own_slice ho1; have hb1 : w1.heap[g]? = some (.cells #[v] 45 (0, 0)) := (hg1.block g hlt (fun e => HNE.out e.symm)).trans H1.out; have p0 := at_cell (i := 0) hb1 rfl; have y0 := at_frozen (i := 0) hb1; have HO1 := Lib.hid ho1; have HG1 : Hid (w.grownBy w1 v.ownBlock) := hg1; have HB1 := Lib.hid hb1; clear ho1 hg1 hv1 hb1)
  go_end0
  have hne1 := own_cells HO1.out HB1.out (by decide)
  refine ⟨rfl, ⟨h0, _, set_same HB1.out 0 _, ?_⟩, ?_, fun k cs t f hk ht hkg => ?_⟩
  · have := own_heap HO1.out (w' := w1.setCell ⟨g, 0, none⟩ (.slice A1 (ws.length + n) c1)) (fun k hk => Below.heap_setCell _ _ _ k (fun e => hne1 (by rw [hk]; exact congrArg some e)))
    rw [List.map_append, List.length_append, HLN.out]
    exact this
  · exact ((Below.refl base w).grown HG1.out hbase (fun k hk => own_block H2.out k hk)).setCell (p := ⟨g, 0, none⟩) h0 _
  · have e1 := (HG1.out.block k (Array.getElem?_eq_some_iff.1 hk).1 (fun e => own_cells H2.out hk ht e.symm)).trans hk
    exact (Below.heap_setCell _ _ _ k hkg).trans e1

/-- A dep's second word. -/
def hashw (d : Dp) : List UInt8 := hexl d.hash.toNat 16 ++ (if d.order then [33] else [])

set_option maxRecDepth 100000 in
set_option maxHeartbeats 400000 in
theorem dhash_any (nm : List UInt8) (h : Int) (o : Bool) (h0 : 0 ≤ h) (h1 : h < 18446744073709551616) (w : World) :
    Calls Tryd.prog 25 #[.agg #[.string (tx nm), .int .u64 h, .bool o]] w fun e w' => e = .returned (.string (tx (hashw ⟨nm, h, o⟩))) ∧ Below w.heap.size w w' := by
  obtain ⟨z, rfl⟩ := Int.eq_ofNat_of_zero_le h0
  have hx : ∀ W, Calls Tryd.prog 23 #[.int .u64 (z : Int)] W fun e w' => e = .returned (.string (tx (hexl z 16))) ∧ Below W.heap.size W w' := fun W => by
    have h := hex_any (BitVec.ofNat 64 z) W
    rw [qv_ofNat (show z < top by unfold top; omega), BitVec.toNat_ofNat, Nat.mod_eq_of_lt (show z < 2 ^ 64 by omega)] at h
    exact h
  have HX := Lib.hid hx
  have H0 := Lib.hid (one_new w (.cells #[.string (tx nm), .int .u64 (z : Int), .bool o] 42))
  have HB0 := Lib.hid ((Below.refl _ w).alloc (Nat.le_refl _) (.cells #[.string (tx nm), .int .u64 (z : Int), .bool o] 42))
  have ha : ∀ W : World, (Op.stringOp .add (tx (hexl z 16)) { data := #[33] }).run Tryd.prog W = .ok (.string (tx (hexl z 16 ++ [33]))) W := fun W => add_tx W _ [33] (by rw [hexl_len]; simp)
  cases o with
  | true =>
    have hh : tx (hashw ⟨nm, (z : Int), true⟩) = tx (hexl z 16 ++ [33]) := rfl
    rw [hh]
    generalize tx (hexl z 16 ++ [33]) = s2 at *
    generalize tx (hexl z 16) = s1 at *
    generalize tx nm = s0 at *
    clear hx h0 h1 hh
    go_enter Tryd.func25, Tryd.ntmps25
    go_wp2_with fail
    refine (HX.out _).mono ?_
    rintro e w1 ⟨rfl, b1⟩
    have hq := (b1.block w.heap.size (by simp)).trans H0.out
    have q2 := at_cell (i := 2) hq rfl
    have HB1 := Lib.hid (HB0.out.trans (b1.mono HB0.out.size))
    clear b1 hq
    go_wp2
    go_ret
    exact ⟨rfl, HB1.out⟩
  | false =>
    have hh : tx (hashw ⟨nm, (z : Int), false⟩) = tx (hexl z 16) := by unfold hashw; simp
    rw [hh]
    generalize tx (hexl z 16) = s1 at *
    generalize tx nm = s0 at *
    clear hx h0 h1 hh ha
    go_enter Tryd.func25, Tryd.ntmps25
    go_wp2_with fail
    refine (HX.out _).mono ?_
    rintro e w1 ⟨rfl, b1⟩
    have hq := (b1.block w.heap.size (by simp)).trans H0.out
    have q2 := at_cell (i := 2) hq rfl
    have HB1 := Lib.hid (HB0.out.trans (b1.mono HB0.out.size))
    clear b1 hq
    go_wp2
    go_ret
    exact ⟨rfl, HB1.out⟩

end Go.Proofs.YthpnfdnhaphfgaaDoor

/- dump.Line of what has one. -/
namespace Go.Proofs.YthpnfdnhaphfgaaDoor
open Go.RowKit

theorem PowTab.below {w w' : World} (h : PowTab w) (hb : Below w.heap.size w w') : PowTab w' := by
  unfold PowTab Lib.TabIs World.var? at *
  cases hg : Tryd.prog.globalNamed "internal/strconv.uint64pow10" with
  | none => simp [hg] at h
  | some g =>
    simp only [hg, Option.bind_some] at h ⊢
    have hlt : g < w.heap.size := by
      rcases Nat.lt_or_ge g w.heap.size with h' | h'
      · exact h'
      · rw [Array.getElem?_eq_none h'] at h; simp at h
    rw [hb.block g hlt]
    exact h

/-- A dep's words; a record's ahead of them. -/
def depws (d : Dp) : List (List UInt8) := [eput d.name, hashw d]
def headws (t : List UInt8) (zu zo zm : Nat) (g : List UInt8) : List (List UInt8) := [eput t, hexl zu 16, hexl zo 16, Lib.decDigits zm, eput g]
def linews (t : List UInt8) (zu zo zm : Nat) (g : List UInt8) (l : List Dp) : List (List UInt8) := headws t zu zo zm g ++ l.flatMap depws

theorem depws_len : ∀ l : List Dp, (l.flatMap depws).length = 2 * l.length
  | [] => rfl
  | d :: l => by rw [List.flatMap_cons, List.length_append, depws_len l]; simp [depws]; omega
theorem depws_snoc {l : List Dp} {i : Nat} {d : Dp} (h : l[i]? = some d) : (l.take (i + 1)).flatMap depws = (l.take i).flatMap depws ++ depws d := by
  rw [List.take_add_one, h, List.flatMap_append]; simp
theorem hashw_len (d : Dp) : (hashw d).length ≤ 17 := by unfold hashw; rw [List.length_append, hexl_len]; split <;> simp
theorem dec_len {z : Nat} (h : z < 18446744073709551616) : (Lib.decDigits z).length ≤ 30 := by
  by_cases h1 : 1 ≤ z
  · have h3 := Lib.numDigits_eq z h1 h
    rw [Lib.decDigits_length]
    split at h3 <;> omega
  · rw [dec_small (by omega)]; simp
theorem linews_len {t g : List UInt8} {zu zo zm : Nat} {l : List Dp} (hm : zm < 18446744073709551616) (ht : t.length ≤ 300) (hg : g.length ≤ 300) (hl : ∀ d ∈ l, d.name.length ≤ 300) : ∀ x ∈ linews t zu zo zm g l, x.length ≤ 2000 := fun x hx => by
  have p1 := eput_len t
  have p2 := eput_len g
  rcases List.mem_append.1 hx with hx | hx
  · simp only [headws, List.mem_cons, List.not_mem_nil, or_false] at hx
    rcases hx with rfl | rfl | rfl | rfl | rfl
    · omega
    · rw [hexl_len]; omega
    · rw [hexl_len]; omega
    · have := dec_len hm; omega
    · omega
  · obtain ⟨d, hd, hx⟩ := List.mem_flatMap.1 hx
    simp only [depws, List.mem_cons, List.not_mem_nil, or_false] at hx
    have p3 := eput_len d.name
    have p4 := hl d hd
    have p5 := hashw_len d
    rcases hx with rfl | rfl <;> omega

theorem reads_words (W : World) (e : TypeId) (ts : List (List UInt8)) : Reads (W.alloc (.cells (ts.map tsv).toArray e)) (W.heap.size + 1) 1 (some ⟨W.heap.size, 0, none⟩) ts.length (ts.map tsv) :=
  ⟨by simp, fun _ => ⟨_, rfl, by simp, fun j u hu => by
    rw [show (⟨W.heap.size, 0, none⟩ : Addr).add j = ⟨W.heap.size, j, none⟩ from by unfold Addr.add; split <;> simp_all]
    simp only [World.cell?, World.alloc, Array.getElem?_push_size]
    simpa using hu⟩⟩

def LnRel (w : World) (B : Nat) (o : Obj) (g : Nat) (hd : List (List UInt8)) (l : List Dp) (idx : Value) (wr : World) : Prop :=
  ∃ i : Nat, i ≤ l.length ∧ idx = .int .i64 (i : Int) ∧ Gx wr B g (hd ++ (l.take i).flatMap depws) ∧ Below w.heap.size w wr ∧ wr.heap[w.heap.size]? = some o

set_option maxRecDepth 100000 in
set_option maxHeartbeats 2000000 in
theorem dline_ok (zu zo zm : Nat) (t g : List UInt8) (A : Option Addr) (n c : Nat) (l : List Dp) (hu : zu < 18446744073709551616) (ho : zo < 18446744073709551616) (hm : zm < 18446744073709551616) (hds : ∀ d ∈ l, 0 ≤ d.hash ∧ d.hash < 18446744073709551616)
    (hmay : MayP 3 ⟨1, t, (zu : Int), (zo : Int), (zm : Int), g⟩ l) (hfit : Fits ⟨1, t, (zu : Int), (zo : Int), (zm : Int), g⟩ l) (hsm : small ⟨1, t, (zu : Int), (zo : Int), (zm : Int), g⟩ l) (w : World) (hp : PowTab w) (h : Reads w w.heap.size 3 A n (dps l)) :
    Calls Tryd.prog 9 #[.agg #[.int .i64 1, .string (tx t), .int .u64 (zu : Int), .slice A n c, .int .u64 (zo : Int), .int .u64 (zm : Int), .string (tx g)]] w fun e w' => e = .returned (.tuple #[.string (tx (joinw (linews t zu zo zm g l))), .int .i64 0]) ∧ Below w.heap.size w w' := by
  have HL : Hid (l.length = n) := by have := h.1; rw [dps_len] at this; show _ = _; omega
  obtain ⟨hs1, hs2, hs3, hs4⟩ := hsm
  simp only at hs3 hs4
  have hn60 : n ≤ 60 := by rw [← HL.out]; exact hs2
  have H1 := Lib.hid h
  have HS1 := Lib.hid hs1
  have HDS := Lib.hid hds
  have HP := Lib.hid hp
  have H0 := Lib.hid (one_new w (.cells #[.int .i64 1, .string (tx t), .int .u64 (zu : Int), .slice A n c, .int .u64 (zo : Int), .int .u64 (zm : Int), .string (tx g)] 25))
  have HB0 := Lib.hid ((Below.refl w.heap.size w).alloc (Nat.le_refl _) (.cells #[.int .i64 1, .string (tx t), .int .u64 (zu : Int), .slice A n c, .int .u64 (zo : Int), .int .u64 (zm : Int), .string (tx g)] 25))
  have HMAY : Hid (∀ W, Below w.heap.size w W → Calls Tryd.prog 20 #[.int .i64 3, .agg #[.int .i64 1, .string (tx t), .int .u64 (zu : Int), .slice A n c, .int .u64 (zo : Int), .int .u64 (zm : Int), .string (tx g)]] W fun e w' => e = .returned (.bool true) ∧ Below W.heap.size W w') := fun W hW =>
    (may_any 3 ⟨1, t, (zu : Int), (zo : Int), (zm : Int), g⟩ A n c l (by omega) hfit W ((H1.out.below hW).more hW.size)).mono fun e w' ⟨ht, hb⟩ => ⟨ht.yes hmay, hb⟩
  have HPT := Lib.hid (fun W => eput_any t (by omega) W)
  have HPG := Lib.hid (fun W => eput_any g (by omega) W)
  have hxs : ∀ z : Nat, z < 18446744073709551616 → ∀ W, Calls Tryd.prog 23 #[.int .u64 (z : Int)] W fun e w' => e = .returned (.string (tx (hexl z 16))) ∧ Below W.heap.size W w' := fun z hz W => by
    have h := hex_any (BitVec.ofNat 64 z) W
    rw [qv_ofNat (show z < top by unfold top; omega), BitVec.toNat_ofNat, Nat.mod_eq_of_lt (show z < 2 ^ 64 by omega)] at h
    exact h
  have HXU := Lib.hid (hxs zu hu)
  have HXO := Lib.hid (hxs zo ho)
  have HFM := Lib.hid (fun W h => fmt_any zm hm W h)
  have HWS : Hid (headws t zu zo zm g = [eput t, hexl zu 16, hexl zo 16, Lib.decDigits zm, eput g]) := by show _ = _; rfl
  have HRW := Lib.hid (fun W => reads_words W 9 [eput t, hexl zu 16, hexl zo 16, Lib.decDigits zm, eput g])
  have HLL := Lib.hid (linews_len (zu := zu) (zo := zo) hm hs3 hs4 hs1)
  have HLW : Hid (linews t zu zo zm g l = headws t zu zo zm g ++ l.flatMap depws) := by show _ = _; rfl
  obtain ⟨W5, hW5⟩ : ∃ W5, W5 = [eput t, hexl zu 16, hexl zo 16, Lib.decDigits zm, eput g] := ⟨_, rfl⟩
  have hW5l : W5.length = 5 := by rw [hW5]; rfl
  have HW5L := Lib.hid hW5l
  have HW5 : Hid (W5.map tsv = [.string (tx (eput t)), .string (tx (hexl zu 16)), .string (tx (hexl zo 16)), .string (tx (Lib.decDigits zm)), .string (tx (eput g))]) := by show _ = _; rw [hW5]; rfl
  rw [← hW5] at HWS HRW
  generalize tx (eput t) = s1 at *
  generalize tx (hexl zu 16) = s2 at *
  generalize tx (hexl zo 16) = s3 at *
  generalize tx (Lib.decDigits zm) = s4 at *
  generalize tx (eput g) = s5 at *
  generalize linews t zu zo zm g l = lws at *
  generalize headws t zu zo zm g = hws at *
  generalize tx t = st at *
  generalize tx g = sg at *
  obtain ⟨jl, hjl0⟩ : ∃ jl, jl = tx (joinw lws) := ⟨_, rfl⟩
  rw [← hjl0]
  have HJL := Lib.hid hjl0
  clear hjl0
  have q0 := at_cell (i := 0) H0.out rfl
  have q1 := at_cell (i := 1) H0.out rfl
  have q2 := at_cell (i := 2) H0.out rfl
  have q3 := at_cell (i := 3) H0.out rfl
  have q4 := at_cell (i := 4) H0.out rfl
  have q5 := at_cell (i := 5) H0.out rfl
  have q6 := at_cell (i := 6) H0.out rfl
  clear h hp hds hs1 hs2 hs3 hs4 hmay hfit hW5 hW5l hxs
  go_enter Tryd.func9, Tryd.ntmps9
  go_wp2_with fail
  refine (HMAY.out _ HB0.out).mono ?_
  rintro e w1 ⟨rfl, b1⟩
  have hr1 := (b1.block w.heap.size (Array.getElem?_eq_some_iff.1 H0.out).1).trans H0.out
  have HR1 := Lib.hid hr1
  have HB1 := Lib.hid (HB0.out.trans (b1.mono HB0.out.size))
  have HZ1 : Hid (w.heap.size < w1.heap.size) := (Array.getElem?_eq_some_iff.1 hr1).1
  have HG4 : Hid (Gx (w1.alloc (.cells #[.slice none 0 0] 45)) w1.heap.size w1.heap.size []) := ⟨Nat.le_refl _, _, one_new w1 _, World.ownsRow_nil _ _ _ _⟩
  have HB4 := Lib.hid (HB1.out.alloc HB1.out.size (.cells #[.slice none 0 0] 45))
  have hr4 := (Below.heap_alloc w1 (.cells #[.slice none 0 0] 45) w.heap.size HZ1.out).trans hr1
  have HR4 := Lib.hid hr4
  clear b1 hr1 hr4 q0 q1 q2 q3 q4 q5 q6
  go_wp2_with fail
  obtain ⟨W4, hW4⟩ : ∃ W4, W4 = w1.alloc (.cells #[.slice none 0 0] 45) := ⟨_, rfl⟩
  have hG4 : Gx W4.drew w1.heap.size w1.heap.size [] := by rw [hW4]; exact HG4.out
  have hB4 : Below w.heap.size w W4.drew := by rw [hW4]; exact HB4.out.drew
  have hr4 : W4.drew.heap[w.heap.size]? = some (.cells #[.int .i64 1, .string st, .int .u64 (zu : Int), .slice A n c, .int .u64 (zo : Int), .int .u64 (zm : Int), .string sg] 25 (0, 0)) := by rw [hW4]; exact HR4.out
  rw [← hW4]
  have HG5 := Lib.hid hG4
  have HB5 := Lib.hid hB4
  have HR5 := Lib.hid hr4
  clear hG4 hB4 hr4 hW4
  refine wp_region_held (S := fun W : World => W.heap[w.heap.size]? = some (.cells #[.int .i64 1, .string st, .int .u64 (zu : Int), .slice A n c, .int .u64 (zo : Int), .int .u64 (zm : Int), .string sg] 25 (0, 0))) (by kernel_rfl) ?_
  refine h_take 0 (.pointer (some ⟨w.heap.size, 1, none⟩)) rfl (by kernel_rfl) (by kernel_rfl) (by kernel_rfl) (fun _ _ _ h => h) (by kernel_rfl) HR5.out (fun _ _ => by kernel_rfl) ?_
  refine h_take 1 (.string st) rfl (by kernel_rfl) (by kernel_rfl) (by kernel_rfl) (fun _ _ _ h => h) (by kernel_rfl) HR5.out (by intro W hW; have z := at_cell (i := 1) hW rfl; go_simp) ?_
  refine h_take 3 (.pointer (some ⟨w.heap.size, 2, none⟩)) rfl (by kernel_rfl) (by kernel_rfl) (by kernel_rfl) (fun _ _ _ h => h) (by kernel_rfl) HR5.out (fun _ _ => by kernel_rfl) ?_
  refine h_take 4 (.int .u64 (zu : Int)) rfl (by kernel_rfl) (by kernel_rfl) (by kernel_rfl) (fun _ _ _ h => h) (by kernel_rfl) HR5.out (by intro W hW; have z := at_cell (i := 2) hW rfl; go_simp) ?_
  refine h_take 6 (.pointer (some ⟨w.heap.size, 4, none⟩)) rfl (by kernel_rfl) (by kernel_rfl) (by kernel_rfl) (fun _ _ _ h => h) (by kernel_rfl) HR5.out (fun _ _ => by kernel_rfl) ?_
  refine h_take 7 (.int .u64 (zo : Int)) rfl (by kernel_rfl) (by kernel_rfl) (by kernel_rfl) (fun _ _ _ h => h) (by kernel_rfl) HR5.out (by intro W hW; have z := at_cell (i := 4) hW rfl; go_simp) ?_
  refine h_take 9 (.pointer (some ⟨w.heap.size, 5, none⟩)) rfl (by kernel_rfl) (by kernel_rfl) (by kernel_rfl) (fun _ _ _ h => h) (by kernel_rfl) HR5.out (fun _ _ => by kernel_rfl) ?_
  refine h_take 10 (.int .u64 (zm : Int)) rfl (by kernel_rfl) (by kernel_rfl) (by kernel_rfl) (fun _ _ _ h => h) (by kernel_rfl) HR5.out (by intro W hW; have z := at_cell (i := 5) hW rfl; go_simp) ?_
  refine h_take 12 (.pointer (some ⟨w.heap.size, 6, none⟩)) rfl (by kernel_rfl) (by kernel_rfl) (by kernel_rfl) (fun _ _ _ h => h) (by kernel_rfl) HR5.out (fun _ _ => by kernel_rfl) ?_
  refine h_take 13 (.string sg) rfl (by kernel_rfl) (by kernel_rfl) (by kernel_rfl) (fun _ _ _ h => h) (by kernel_rfl) HR5.out (by intro W hW; have z := at_cell (i := 6) hW rfl; go_simp) ?_
  refine h_one 2 rfl (by kernel_rfl) (by kernel_rfl) (fun K hK => ?_)
  go_simp
  refine (HPT.out _).mono ?_
  rintro e x6 ⟨rfl, b6⟩
  have HB6 := Lib.hid (HB5.out.trans (b6.mono HB5.out.size))
  have HG6 := Lib.hid (HG5.out.below b6)
  have hR6 := (b6.block w.heap.size (Array.getElem?_eq_some_iff.1 HR5.out).1).trans HR5.out
  have HR6 := Lib.hid hR6
  clear b6 hR6
  refine hK _ _ HR6.out ?_
  clear hK K
  refine h_one 5 rfl (by kernel_rfl) (by kernel_rfl) (fun K hK => ?_)
  go_simp
  refine (HXU.out _).mono ?_
  rintro e x7 ⟨rfl, b7⟩
  have HB7 := Lib.hid (HB6.out.trans (b7.mono HB6.out.size))
  have HG7 := Lib.hid (HG6.out.below b7)
  have hR7 := (b7.block w.heap.size (Array.getElem?_eq_some_iff.1 HR6.out).1).trans HR6.out
  have HR7 := Lib.hid hR7
  clear b7 hR7
  refine hK _ _ HR7.out ?_
  clear hK K
  refine h_one 8 rfl (by kernel_rfl) (by kernel_rfl) (fun K hK => ?_)
  go_simp
  refine (HXO.out _).mono ?_
  rintro e x8 ⟨rfl, b8⟩
  have HB8 := Lib.hid (HB7.out.trans (b8.mono HB7.out.size))
  have HG8 := Lib.hid (HG7.out.below b8)
  have hR8 := (b8.block w.heap.size (Array.getElem?_eq_some_iff.1 HR7.out).1).trans HR7.out
  have HR8 := Lib.hid hR8
  clear b8 hR8
  refine hK _ _ HR8.out ?_
  clear hK K
  refine h_one 11 rfl (by kernel_rfl) (by kernel_rfl) (fun K hK => ?_)
  go_simp
  refine (HFM.out _ (HP.out.below HB8.out)).mono ?_
  rintro e x9 ⟨rfl, b9⟩
  have HB9 := Lib.hid (HB8.out.trans (b9.mono HB8.out.size))
  have HG9 := Lib.hid (HG8.out.below b9)
  have hR9 := (b9.block w.heap.size (Array.getElem?_eq_some_iff.1 HR8.out).1).trans HR8.out
  have HR9 := Lib.hid hR9
  clear b9 hR9
  refine hK _ _ HR9.out ?_
  clear hK K
  refine h_one 14 rfl (by kernel_rfl) (by kernel_rfl) (fun K hK => ?_)
  go_simp
  refine (HPG.out _).mono ?_
  rintro e x10 ⟨rfl, b10⟩
  have HB10 := Lib.hid (HB9.out.trans (b10.mono HB9.out.size))
  have HG10 := Lib.hid (HG9.out.below b10)
  have hR10 := (b10.block w.heap.size (Array.getElem?_eq_some_iff.1 HR9.out).1).trans HR9.out
  have HR10 := Lib.hid hR10
  clear b10 hR10
  refine hK _ _ HR10.out ?_
  clear hK K
  refine h_one 15 rfl (by kernel_rfl) (by kernel_rfl) (fun K hK => ?_)
  go_simp
  have hR := (Below.heap_alloc x10 (.cells #[.string s1, .string s2, .string s3, .string s4, .string s5] 9) w.heap.size (Array.getElem?_eq_some_iff.1 HR10.out).1).trans HR10.out
  have HR11 := Lib.hid hR
  clear hR
  refine hK _ _ HR11.out ?_
  clear hK K
  have hrw := HRW.out x10
  rw [HW5L.out, HW5.out] at hrw
  have hrw2 : Reads (x10.alloc (.cells #[.string s1, .string s2, .string s3, .string s4, .string s5] 9)) (x10.alloc (.cells #[.string s1, .string s2, .string s3, .string s4, .string s5] 9)).heap.size 1 (some ⟨x10.heap.size, 0, none⟩) 5 (W5.map tsv) := by rw [World.size_alloc, HW5.out]; exact hrw
  have HRW2 := Lib.hid hrw2
  have HG11 := Lib.hid (HG10.out.below ((Below.refl x10.heap.size x10).alloc (Nat.le_refl _) (.cells #[.string s1, .string s2, .string s3, .string s4, .string s5] 9)))
  have HB11 := Lib.hid (HB10.out.alloc HB10.out.size (.cells #[.string s1, .string s2, .string s3, .string s4, .string s5] 9))
  clear hrw hrw2
  refine h_one 16 rfl (by kernel_rfl) (by kernel_rfl) (fun K hK => ?_)
  go_simp
  refine (wadd_any w1.heap.size w1.heap.size [] W5 _ 5 5 (by omega) (by simp) _ HG11.out (by simp) HRW2.out).mono ?_
  rintro e x12 ⟨rfl, hg12, hb12, _⟩
  have hR12 := (hb12.block w.heap.size HZ1.out).trans HR11.out
  have HR12 := Lib.hid hR12
  have HG12 := Lib.hid hg12
  have HB12 := Lib.hid (HB11.out.trans (hb12.mono (Nat.le_of_lt HZ1.out)))
  clear hR12 hg12 hb12
  refine hK _ _ HR12.out ?_
  clear hK K
  refine wpAnyH_done (by kernel_rfl) ?_ _
  go_simp
  have q3 := at_cell (i := 3) HR12.out rfl
  have HI12 : Hid (LnRel w w1.heap.size (.cells #[.int .i64 1, .string st, .int .u64 (zu : Int), .slice A n c, .int .u64 (zo : Int), .int .u64 (zm : Int), .string sg] 25 (0, 0)) w1.heap.size hws l (.int .i64 0) x12) := ⟨0, Nat.zero_le _, rfl, by rw [HWS.out]; simpa using HG12.out, HB12.out, HR12.out⟩
  clear HG12 HB12 HR12
  go_wp2
  clear q3
  go_loopw [35] (fun idx wr => LnRel w w1.heap.size (.cells #[.int .i64 1, .string st, .int .u64 (zu : Int), .slice A n c, .int .u64 (zo : Int), .int .u64 (zm : Int), .string sg] 25 (0, 0)) w1.heap.size hws l idx wr) (fun idx _ => n - (intOf idx).toNat)
  case atStart => exact HI12.out
  case round =>
    obtain ⟨i, hi, rfl, hgx, hb, hrec⟩ := hrel
    rw [HL.out] at hi
    have HGX := Lib.hid hgx
    have HBR := Lib.hid hb
    have HRC := Lib.hid hrec
    clear hgx hb hrec
    by_cases hlt : i < n
    · obtain ⟨x, hx⟩ : ∃ x, l[i]? = some x := ⟨_, List.getElem?_eq_getElem (by rw [HL.out]; exact hlt)⟩
      obtain ⟨ad, rfl, _, hcx⟩ := (H1.out.below HBR.out).2 (by omega)
      obtain ⟨y0, y1, y2⟩ := dps_at l i x hx
      have k0 := hcx _ _ y0
      have k1 := hcx _ _ y1
      have k2 := hcx _ _ y2
      rw [add_one] at k1
      rw [add_two] at k2
      have hxl := HS1.out x (List.mem_of_getElem? hx)
      have hxd := HDS.out x (List.mem_of_getElem? hx)
      have HSN : Hid ((l.take (i + 1)).flatMap depws = (l.take i).flatMap depws ++ depws x) := depws_snoc hx
      have HLN : Hid ((hws ++ (l.take i).flatMap depws).length ≤ 1000) := by
        show _ ≤ _
        rw [HWS.out, List.length_append, HW5L.out, depws_len, List.length_take, HL.out]
        omega
      obtain ⟨xn, xh, xo⟩ := x
      simp only at k0 k1 k2 hxl hxd
      have HPN := Lib.hid (fun W => eput_any xn (by omega) W)
      have HHS := Lib.hid (fun W => dhash_any xn xh xo hxd.1 hxd.2 W)
      have HDW : Hid (([eput xn, hashw ⟨xn, xh, xo⟩] : List (List UInt8)) = depws ⟨xn, xh, xo⟩) := by show _ = _; rfl
      have HRW3 := Lib.hid (fun W => reads_words W 9 [eput xn, hashw ⟨xn, xh, xo⟩])
      obtain ⟨V2, hV2⟩ : ∃ V2, V2 = [eput xn, hashw ⟨xn, xh, xo⟩] := ⟨_, rfl⟩
      have HV2 : Hid (V2.map tsv = [.string (tx (eput xn)), .string (tx (hashw ⟨xn, xh, xo⟩))]) := by show _ = _; rw [hV2]; rfl
      have HV2L : Hid (V2.length = 2) := by show _ = _; rw [hV2]; rfl
      rw [← hV2] at HRW3 HDW
      unfold rsv at k0
      generalize tx (eput xn) = p1 at *
      generalize tx (hashw ⟨xn, xh, xo⟩) = p2 at *
      generalize tx xn = sn at *
      have hi0 : (0 : Int) ≤ (i : Int) := by omega
      have hi1 : (i : Int) < (n : Int) := by omega
      have HBD := Lib.hid (HBR.out.alloc HBR.out.size (.cells #[.string sn, .int .u64 xh, .bool xo] 42))
      have HDN := Lib.hid (one_new wr (.cells #[.string sn, .int .u64 xh, .bool xo] 42))
      have HRD := Lib.hid ((Below.heap_alloc wr (.cells #[.string sn, .int .u64 xh, .bool xo] 42) w.heap.size (Array.getElem?_eq_some_iff.1 HRC.out).1).trans HRC.out)
      have HGD := Lib.hid (HGX.out.below ((Below.refl wr.heap.size wr).alloc (Nat.le_refl _) (.cells #[.string sn, .int .u64 xh, .bool xo] 42)))
      have HNE : Hid (wr.heap.size ≠ w1.heap.size) := by
        obtain ⟨_, v, h1, _⟩ := HGX.out
        have := (Array.getElem?_eq_some_iff.1 h1).1
        show _ ≠ _
        omega
      have HZR : Hid (w.heap.size ≠ w1.heap.size) := by have := HZ1.out; show _ ≠ _; omega
      clear hcx y0 y1 y2 hx hxl hxd hV2
      go_wp2_with fail
      obtain ⟨X0, hX0⟩ : ∃ X0, X0 = wr.alloc (.cells #[.string sn, .int .u64 xh, .bool xo] 42) := ⟨_, rfl⟩
      rw [← hX0] at HBD HDN HRD HGD
      rw [← hX0]
      have HB20 : Hid (Below w.heap.size w X0.drew) := HBD.out.drew
      have HD20 : Hid (X0.drew.heap[wr.heap.size]? = some (.cells #[.string sn, .int .u64 xh, .bool xo] 42 (0, 0))) := HDN.out
      have HR20 : Hid (X0.drew.heap[w.heap.size]? = some (.cells #[.int .i64 1, .string st, .int .u64 (zu : Int), .slice (some ad) n c, .int .u64 (zo : Int), .int .u64 (zm : Int), .string sg] 25 (0, 0))) := HRD.out
      have HG20 : Hid (Gx X0.drew w1.heap.size w1.heap.size (hws ++ (l.take i).flatMap depws)) := HGD.out
      clear hX0 HBD HDN HRD HGD k0 k1 k2
      refine wp_region_held (S := fun W : World => W.heap[wr.heap.size]? = some (.cells #[.string sn, .int .u64 xh, .bool xo] 42 (0, 0))) (by kernel_rfl) ?_
      refine h_take 0 (.pointer (some ⟨wr.heap.size, 0, none⟩)) rfl (by kernel_rfl) (by kernel_rfl) (by kernel_rfl) (fun _ _ _ h => h) (by kernel_rfl) HD20.out (fun _ _ => by kernel_rfl) ?_
      refine h_take 1 (.string sn) rfl (by kernel_rfl) (by kernel_rfl) (by kernel_rfl) (fun _ _ _ h => h) (by kernel_rfl) HD20.out (by intro W hW; have z0 := at_cell (i := 0) hW rfl; have z1 := at_cell (i := 1) hW rfl; have z2 := at_cell (i := 2) hW rfl; go_simp) ?_
      refine h_take 3 (.agg #[.string sn, .int .u64 xh, .bool xo]) rfl (by kernel_rfl) (by kernel_rfl) (by kernel_rfl) (fun _ _ _ h => h) (by kernel_rfl) HD20.out (by intro W hW; have z0 := at_cell (i := 0) hW rfl; have z1 := at_cell (i := 1) hW rfl; have z2 := at_cell (i := 2) hW rfl; go_simp) ?_
      refine h_one 2 rfl (by kernel_rfl) (by kernel_rfl) (fun K hK => ?_)
      go_simp
      refine (HPN.out _).mono ?_
      rintro e x21 ⟨rfl, b21⟩
      have HB21 := Lib.hid (HB20.out.trans (b21.mono HB20.out.size))
      have HG21 := Lib.hid (HG20.out.below b21)
      have HR21 := Lib.hid ((b21.block w.heap.size (Array.getElem?_eq_some_iff.1 HR20.out).1).trans HR20.out)
      have HD21 := Lib.hid ((b21.block wr.heap.size (Array.getElem?_eq_some_iff.1 HD20.out).1).trans HD20.out)
      clear b21
      refine hK _ _ HD21.out ?_
      clear hK K
      refine h_one 4 rfl (by kernel_rfl) (by kernel_rfl) (fun K hK => ?_)
      go_simp
      refine (HHS.out _).mono ?_
      rintro e x22 ⟨rfl, b22⟩
      have HB22 := Lib.hid (HB21.out.trans (b22.mono HB21.out.size))
      have HG22 := Lib.hid (HG21.out.below b22)
      have HR22 := Lib.hid ((b22.block w.heap.size (Array.getElem?_eq_some_iff.1 HR21.out).1).trans HR21.out)
      have HD22 := Lib.hid ((b22.block wr.heap.size (Array.getElem?_eq_some_iff.1 HD21.out).1).trans HD21.out)
      clear b22
      refine hK _ _ HD22.out ?_
      clear hK K
      refine h_one 5 rfl (by kernel_rfl) (by kernel_rfl) (fun K hK => ?_)
      go_simp
      have HR23 := Lib.hid ((Below.heap_alloc x22 (.cells #[.string p1, .string p2] 9) w.heap.size (Array.getElem?_eq_some_iff.1 HR22.out).1).trans HR22.out)
      have HD23 := Lib.hid ((Below.heap_alloc x22 (.cells #[.string p1, .string p2] 9) wr.heap.size (Array.getElem?_eq_some_iff.1 HD22.out).1).trans HD22.out)
      refine hK _ _ HD23.out ?_
      clear hK K
      have hrw := HRW3.out x22
      rw [HV2L.out, HV2.out] at hrw
      have hrw2 : Reads (x22.alloc (.cells #[.string p1, .string p2] 9)) (x22.alloc (.cells #[.string p1, .string p2] 9)).heap.size 1 (some ⟨x22.heap.size, 0, none⟩) 2 (V2.map tsv) := by rw [World.size_alloc, HV2.out]; exact hrw
      have HRW4 := Lib.hid hrw2
      have HG23 := Lib.hid (HG22.out.below ((Below.refl x22.heap.size x22).alloc (Nat.le_refl _) (.cells #[.string p1, .string p2] 9)))
      have HB23 := Lib.hid (HB22.out.alloc HB22.out.size (.cells #[.string p1, .string p2] 9))
      clear hrw hrw2
      refine h_one 6 rfl (by kernel_rfl) (by kernel_rfl) (fun K hK => ?_)
      go_simp
      refine (wadd_any w1.heap.size w1.heap.size _ V2 _ 2 2 (by omega) HLN.out _ HG23.out (by simp) HRW4.out).mono ?_
      rintro e x24 ⟨rfl, hg24, hb24, hk24⟩
      have HR24 := Lib.hid (hk24 _ _ _ _ HR23.out (by decide) HZR.out)
      have HD24 := Lib.hid (hk24 _ _ _ _ HD23.out (by decide) HNE.out)
      have HG24 := Lib.hid hg24
      have HB24 := Lib.hid (HB23.out.trans (hb24.mono (Nat.le_of_lt HZ1.out)))
      clear hk24 hg24 hb24
      refine hK _ _ HD24.out ?_
      clear hK K
      refine wpAnyH_done (by kernel_rfl) ?_ _
      go_simp
      go_wp2
      exact ⟨⟨i + 1, by rw [HL.out]; omega, by go_num, by rw [HSN.out, ← HDW.out, ← List.append_assoc]; exact HG24.out, HB24.out, HR24.out⟩, by simp [intOf]; omega⟩
    · obtain rfl : i = n := by omega
      have htk : l.take i = l := List.take_of_length_le (by rw [HL.out]; exact Nat.le_refl _)
      rw [htk] at HGX
      rw [← HLW.out] at HGX
      have hll : lws.length ≤ 125 := by
        rw [HLW.out, List.length_append, HWS.out, HW5L.out, depws_len, HL.out]
        omega
      have hjl := joinw_take lws HLL.out
      obtain ⟨h0, v, h1, h2⟩ := HGX.out
      obtain ⟨A3, c3, rfl, hA3⟩ := own_slice h2
      have z0 := at_cell (i := 0) h1 rfl
      have hj := ejoinL_any A3 lws.length c3 lws (own_cap h2) (by omega) (by omega) wr (Reads.of_own h2)
      rw [← HJL.out] at hj
      have HJ := Lib.hid hj
      clear hj
      generalize lws.length = nl at *
      clear h1 h2 htk
      go_wp2_with fail
      refine HJ.out.mono ?_
      rintro e x30 ⟨rfl, b30⟩
      have hb30 := HBR.out.trans (b30.mono HBR.out.size)
      clear b30
      go_wp2
      go_ret2
      exact ⟨rfl, hb30⟩

end Go.Proofs.YthpnfdnhaphfgaaDoor

/- The document's Line of what has one. -/
namespace Go.Proofs.YthpnfdnhaphfgaaDoor
open Go.RowKit

theorem head_join (t g : List UInt8) (zu zo zm : Nat) : joinw (headws t zu zo zm g) = eput t ++ [32] ++ hexl zu 16 ++ [32] ++ hexl zo 16 ++ [32] ++ Lib.decDigits zm ++ [32] ++ eput g := by
  unfold headws
  rw [joinw_cons _ _ (by simp), joinw_cons _ _ (by simp), joinw_cons _ _ (by simp), joinw_cons _ _ (by simp), joinw_one]
  simp
theorem step_join {ws : List (List UInt8)} (h : ws ≠ []) (d : Dp) : joinw (ws ++ depws d) = joinw ws ++ [32] ++ eput d.name ++ [32] ++ hashw d := by
  unfold depws
  rw [show ws ++ [eput d.name, hashw d] = (ws ++ [eput d.name]) ++ [hashw d] by simp, joinw_snoc _ _ (by simp), joinw_snoc _ _ h]
  simp
theorem linews_take {t g : List UInt8} {zu zo zm i : Nat} {l : List Dp} (h : ∀ x ∈ linews t zu zo zm g l, x.length ≤ 2000) (hl : l.length ≤ 60) : (joinw (headws t zu zo zm g ++ (l.take i).flatMap depws)).length ≤ 260000 := by
  have h1 := joinw_take (headws t zu zo zm g ++ (l.take i).flatMap depws) (fun x hx => by
    rcases List.mem_append.1 hx with hx | hx
    · exact h x (List.mem_append.2 (.inl hx))
    · obtain ⟨d, hd, hx⟩ := List.mem_flatMap.1 hx
      exact h x (List.mem_append.2 (.inr (List.mem_flatMap.2 ⟨d, List.mem_of_mem_take hd, hx⟩))))
  rw [List.length_append, depws_len, List.length_take, show (headws t zu zo zm g).length = 5 from rfl] at h1
  omega

def DlRel (w : World) (o : Obj) (hd : List (List UInt8)) (l : List Dp) (v4 v5 : Value) (wr : World) : Prop :=
  ∃ i : Nat, i ≤ l.length ∧ v5 = .int .i64 (i : Int) ∧ v4 = .string (tx (joinw (hd ++ (l.take i).flatMap depws))) ∧ Below w.heap.size w wr ∧ wr.heap[w.heap.size]? = some o

set_option maxRecDepth 100000 in
set_option maxHeartbeats 2000000 in
theorem rline_ok (zu zo zm : Nat) (t g : List UInt8) (A : Option Addr) (n c : Nat) (l : List Dp) (hu : zu < 18446744073709551616) (ho : zo < 18446744073709551616) (hm : zm < 18446744073709551616) (hds : ∀ d ∈ l, 0 ≤ d.hash ∧ d.hash < 18446744073709551616)
    (hmay : MayP 3 ⟨1, t, (zu : Int), (zo : Int), (zm : Int), g⟩ l) (hfit : Fits ⟨1, t, (zu : Int), (zo : Int), (zm : Int), g⟩ l) (hsm : small ⟨1, t, (zu : Int), (zo : Int), (zm : Int), g⟩ l) (w : World) (h : Reads w w.heap.size 3 A n (dps l)) :
    Calls Tryd.prog 10 #[.agg #[.int .i64 1, .string (tx t), .int .u64 (zu : Int), .slice A n c, .int .u64 (zo : Int), .int .u64 (zm : Int), .string (tx g)]] w fun e w' => e = .returned (.tuple #[.string (tx (joinw (linews t zu zo zm g l))), .int .i64 0]) ∧ Below w.heap.size w w' := by
  have HL : Hid (l.length = n) := by have := h.1; rw [dps_len] at this; show _ = _; omega
  obtain ⟨hs1, hs2, hs3, hs4⟩ := hsm
  simp only at hs3 hs4
  have hn60 : n ≤ 60 := by rw [← HL.out]; exact hs2
  have H1 := Lib.hid h
  have HS1 := Lib.hid hs1
  have HDS := Lib.hid hds
  have H0 := Lib.hid (one_new w (.cells #[.int .i64 1, .string (tx t), .int .u64 (zu : Int), .slice A n c, .int .u64 (zo : Int), .int .u64 (zm : Int), .string (tx g)] 25))
  have HB0 := Lib.hid ((Below.refl w.heap.size w).alloc (Nat.le_refl _) (.cells #[.int .i64 1, .string (tx t), .int .u64 (zu : Int), .slice A n c, .int .u64 (zo : Int), .int .u64 (zm : Int), .string (tx g)] 25))
  have HMAY : Hid (∀ W, Below w.heap.size w W → Calls Tryd.prog 27 #[.int .i64 3, .agg #[.int .i64 1, .string (tx t), .int .u64 (zu : Int), .slice A n c, .int .u64 (zo : Int), .int .u64 (zm : Int), .string (tx g)]] W fun e w' => e = .returned (.bool true) ∧ Below W.heap.size W w') := fun W hW =>
    (rmay_any 3 ⟨1, t, (zu : Int), (zo : Int), (zm : Int), g⟩ A n c l (by omega) hfit W ((H1.out.below hW).more hW.size)).mono fun e w' ⟨ht, hb⟩ => ⟨ht.yes hmay, hb⟩
  have p1 := eput_len t
  have p2 := eput_len g
  have p3 := dec_len hm
  have p4 := hexl_len zu 16
  have p5 := hexl_len zo 16
  have HPT := Lib.hid (fun W => rput_any t (by omega) W)
  have HPG := Lib.hid (fun W => rput_any g (by omega) W)
  have hxs : ∀ z : Nat, z < 18446744073709551616 → ∀ W, Calls Tryd.prog 29 #[.int .u64 (z : Int)] W fun e w' => e = .returned (.string (tx (hexl z 16))) ∧ W = w' := fun z hz W => by
    have h := refhex_any (BitVec.ofNat 64 z) W
    rw [qv_ofNat (show z < top by unfold top; omega), BitVec.toNat_ofNat, Nat.mod_eq_of_lt (show z < 2 ^ 64 by omega)] at h
    exact h
  have HXU := Lib.hid (hxs zu hu)
  have HXO := Lib.hid (hxs zo ho)
  have HFM := Lib.hid (fun W => digits_any zm hm W)
  have HHX := Lib.hid hxs
  have HLL := Lib.hid (fun i => linews_take (i := i) (linews_len (zu := zu) (zo := zo) hm hs3 hs4 hs1) hs2)
  have HLW : Hid (linews t zu zo zm g l = headws t zu zo zm g ++ l.flatMap depws) := by show _ = _; rfl
  have HJ0 := Lib.hid (head_join t g zu zo zm)
  have HNE : Hid (∀ x : List (List UInt8), headws t zu zo zm g ++ x ≠ []) := fun x e => by simp [headws] at e
  have a1 : ∀ W : World, (Op.stringOp .add (tx (eput t)) ({ data := #[32] })).run Tryd.prog W = .ok (.string (tx (eput t ++ [32]))) W := fun W => add_tx W (eput t) ([32]) (by simp; omega)
  have a2 : ∀ W : World, (Op.stringOp .add (tx (eput t ++ [32])) (tx (hexl zu 16))).run Tryd.prog W = .ok (.string (tx (eput t ++ [32] ++ hexl zu 16))) W := fun W => add_tx W (eput t ++ [32]) (hexl zu 16) (by simp [p4]; omega)
  have a3 : ∀ W : World, (Op.stringOp .add (tx (eput t ++ [32] ++ hexl zu 16)) ({ data := #[32] })).run Tryd.prog W = .ok (.string (tx (eput t ++ [32] ++ hexl zu 16 ++ [32]))) W := fun W => add_tx W (eput t ++ [32] ++ hexl zu 16) ([32]) (by simp [p4]; omega)
  have a4 : ∀ W : World, (Op.stringOp .add (tx (eput t ++ [32] ++ hexl zu 16 ++ [32])) (tx (hexl zo 16))).run Tryd.prog W = .ok (.string (tx (eput t ++ [32] ++ hexl zu 16 ++ [32] ++ hexl zo 16))) W := fun W => add_tx W (eput t ++ [32] ++ hexl zu 16 ++ [32]) (hexl zo 16) (by simp [p4, p5]; omega)
  have a5 : ∀ W : World, (Op.stringOp .add (tx (eput t ++ [32] ++ hexl zu 16 ++ [32] ++ hexl zo 16)) ({ data := #[32] })).run Tryd.prog W = .ok (.string (tx (eput t ++ [32] ++ hexl zu 16 ++ [32] ++ hexl zo 16 ++ [32]))) W := fun W => add_tx W (eput t ++ [32] ++ hexl zu 16 ++ [32] ++ hexl zo 16) ([32]) (by simp [p4, p5]; omega)
  have a6 : ∀ W : World, (Op.stringOp .add (tx (eput t ++ [32] ++ hexl zu 16 ++ [32] ++ hexl zo 16 ++ [32])) (tx (Lib.decDigits zm))).run Tryd.prog W = .ok (.string (tx (eput t ++ [32] ++ hexl zu 16 ++ [32] ++ hexl zo 16 ++ [32] ++ Lib.decDigits zm))) W := fun W => add_tx W (eput t ++ [32] ++ hexl zu 16 ++ [32] ++ hexl zo 16 ++ [32]) (Lib.decDigits zm) (by simp [p4, p5]; omega)
  have a7 : ∀ W : World, (Op.stringOp .add (tx (eput t ++ [32] ++ hexl zu 16 ++ [32] ++ hexl zo 16 ++ [32] ++ Lib.decDigits zm)) ({ data := #[32] })).run Tryd.prog W = .ok (.string (tx (eput t ++ [32] ++ hexl zu 16 ++ [32] ++ hexl zo 16 ++ [32] ++ Lib.decDigits zm ++ [32]))) W := fun W => add_tx W (eput t ++ [32] ++ hexl zu 16 ++ [32] ++ hexl zo 16 ++ [32] ++ Lib.decDigits zm) ([32]) (by simp [p4, p5]; omega)
  have a8 : ∀ W : World, (Op.stringOp .add (tx (eput t ++ [32] ++ hexl zu 16 ++ [32] ++ hexl zo 16 ++ [32] ++ Lib.decDigits zm ++ [32])) (tx (eput g))).run Tryd.prog W = .ok (.string (tx (eput t ++ [32] ++ hexl zu 16 ++ [32] ++ hexl zo 16 ++ [32] ++ Lib.decDigits zm ++ [32] ++ eput g))) W := fun W => add_tx W (eput t ++ [32] ++ hexl zu 16 ++ [32] ++ hexl zo 16 ++ [32] ++ Lib.decDigits zm ++ [32]) (eput g) (by simp [p4, p5]; omega)
  rw [HJ0.out.symm] at a8
  have HT0 : Hid (tx (joinw (headws t zu zo zm g ++ (l.take 0).flatMap depws)) = tx (joinw (headws t zu zo zm g))) := by show _ = _; simp
  clear p1 p2 p3 p4 p5
  generalize tx (eput t ++ [32] ++ hexl zu 16 ++ [32] ++ hexl zo 16 ++ [32] ++ Lib.decDigits zm ++ [32]) = b7 at *
  generalize tx (eput t ++ [32] ++ hexl zu 16 ++ [32] ++ hexl zo 16 ++ [32] ++ Lib.decDigits zm) = b6 at *
  generalize tx (eput t ++ [32] ++ hexl zu 16 ++ [32] ++ hexl zo 16 ++ [32]) = b5 at *
  generalize tx (eput t ++ [32] ++ hexl zu 16 ++ [32] ++ hexl zo 16) = b4 at *
  generalize tx (eput t ++ [32] ++ hexl zu 16 ++ [32]) = b3 at *
  generalize tx (eput t ++ [32] ++ hexl zu 16) = b2 at *
  generalize tx (eput t ++ [32]) = b1 at *
  generalize tx (joinw (headws t zu zo zm g)) = b8 at *
  generalize tx (eput t) = s1 at *
  generalize tx (hexl zu 16) = s2 at HXU a1 a2 a3 a4 a5 a6 a7 a8
  generalize tx (hexl zo 16) = s3 at HXO a1 a2 a3 a4 a5 a6 a7 a8
  generalize tx (Lib.decDigits zm) = s4 at *
  generalize tx (eput g) = s5 at *
  generalize linews t zu zo zm g l = lws at *
  generalize headws t zu zo zm g = hws at *
  generalize tx t = st at *
  generalize tx g = sg at *
  obtain ⟨jl, hjl0⟩ : ∃ jl, jl = tx (joinw lws) := ⟨_, rfl⟩
  rw [← hjl0]
  have HJL := Lib.hid hjl0
  clear hjl0
  have q0 := at_cell (i := 0) H0.out rfl
  have q1 := at_cell (i := 1) H0.out rfl
  have q2 := at_cell (i := 2) H0.out rfl
  have q3 := at_cell (i := 3) H0.out rfl
  have q4 := at_cell (i := 4) H0.out rfl
  have q5 := at_cell (i := 5) H0.out rfl
  have q6 := at_cell (i := 6) H0.out rfl
  clear h hds hs1 hs2 hs3 hs4 hmay hfit hxs
  go_enter Tryd.func10, Tryd.ntmps10
  go_wp2_with fail
  refine (HMAY.out _ HB0.out).mono ?_
  rintro e w1 ⟨rfl, b1⟩
  have hr1 := (b1.block w.heap.size (Array.getElem?_eq_some_iff.1 H0.out).1).trans H0.out
  have HR5 : Hid (w1.drew.heap[w.heap.size]? = some (.cells #[.int .i64 1, .string st, .int .u64 (zu : Int), .slice A n c, .int .u64 (zo : Int), .int .u64 (zm : Int), .string sg] 25 (0, 0))) := hr1
  have HB5 : Hid (Below w.heap.size w w1.drew) := (HB0.out.trans (b1.mono HB0.out.size)).drew
  clear b1 hr1 q0 q1 q2 q3 q4 q5 q6
  go_wp2_with fail
  refine wp_region_held (S := fun W : World => W.heap[w.heap.size]? = some (.cells #[.int .i64 1, .string st, .int .u64 (zu : Int), .slice A n c, .int .u64 (zo : Int), .int .u64 (zm : Int), .string sg] 25 (0, 0))) (by kernel_rfl) ?_
  refine h_take 0 (.pointer (some ⟨w.heap.size, 1, none⟩)) rfl (by kernel_rfl) (by kernel_rfl) (by kernel_rfl) (fun _ _ _ h => h) (by kernel_rfl) HR5.out (fun _ _ => by kernel_rfl) ?_
  refine h_take 1 (.string st) rfl (by kernel_rfl) (by kernel_rfl) (by kernel_rfl) (fun _ _ _ h => h) (by kernel_rfl) HR5.out (by intro W hW; have z := at_cell (i := 1) hW rfl; go_simp) ?_
  refine h_take 4 (.pointer (some ⟨w.heap.size, 2, none⟩)) rfl (by kernel_rfl) (by kernel_rfl) (by kernel_rfl) (fun _ _ _ h => h) (by kernel_rfl) HR5.out (fun _ _ => by kernel_rfl) ?_
  refine h_take 5 (.int .u64 (zu : Int)) rfl (by kernel_rfl) (by kernel_rfl) (by kernel_rfl) (fun _ _ _ h => h) (by kernel_rfl) HR5.out (by intro W hW; have z := at_cell (i := 2) hW rfl; go_simp) ?_
  refine h_take 9 (.pointer (some ⟨w.heap.size, 4, none⟩)) rfl (by kernel_rfl) (by kernel_rfl) (by kernel_rfl) (fun _ _ _ h => h) (by kernel_rfl) HR5.out (fun _ _ => by kernel_rfl) ?_
  refine h_take 10 (.int .u64 (zo : Int)) rfl (by kernel_rfl) (by kernel_rfl) (by kernel_rfl) (fun _ _ _ h => h) (by kernel_rfl) HR5.out (by intro W hW; have z := at_cell (i := 4) hW rfl; go_simp) ?_
  refine h_take 14 (.pointer (some ⟨w.heap.size, 5, none⟩)) rfl (by kernel_rfl) (by kernel_rfl) (by kernel_rfl) (fun _ _ _ h => h) (by kernel_rfl) HR5.out (fun _ _ => by kernel_rfl) ?_
  refine h_take 15 (.int .u64 (zm : Int)) rfl (by kernel_rfl) (by kernel_rfl) (by kernel_rfl) (fun _ _ _ h => h) (by kernel_rfl) HR5.out (by intro W hW; have z := at_cell (i := 5) hW rfl; go_simp) ?_
  refine h_take 19 (.pointer (some ⟨w.heap.size, 6, none⟩)) rfl (by kernel_rfl) (by kernel_rfl) (by kernel_rfl) (fun _ _ _ h => h) (by kernel_rfl) HR5.out (fun _ _ => by kernel_rfl) ?_
  refine h_take 20 (.string sg) rfl (by kernel_rfl) (by kernel_rfl) (by kernel_rfl) (fun _ _ _ h => h) (by kernel_rfl) HR5.out (by intro W hW; have z := at_cell (i := 6) hW rfl; go_simp) ?_
  refine h_one 2 rfl (by kernel_rfl) (by kernel_rfl) (fun K hK => ?_)
  go_simp
  refine (HPT.out _).mono ?_
  rintro e x6 ⟨rfl, b6⟩
  have HB6 := Lib.hid (HB5.out.trans (b6.mono HB5.out.size))
  have HR6 := Lib.hid ((b6.block w.heap.size (Array.getElem?_eq_some_iff.1 HR5.out).1).trans HR5.out)
  clear b6
  refine hK _ _ HR6.out ?_
  clear hK K
  refine h_take 3 (.string b1) rfl (by kernel_rfl) (by kernel_rfl) (by kernel_rfl) (fun _ _ _ h => h) (by kernel_rfl) HR6.out (by intro v hv; go_simp) ?_
  refine h_one 6 rfl (by kernel_rfl) (by kernel_rfl) (fun K hK => ?_)
  go_simp
  refine (HXU.out _).mono ?_
  rintro e wx ⟨rfl, rfl⟩
  refine hK _ _ HR6.out ?_
  clear hK K
  refine h_take 7 (.string b2) rfl (by kernel_rfl) (by kernel_rfl) (by kernel_rfl) (fun _ _ _ h => h) (by kernel_rfl) HR6.out (by intro v hv; go_simp) ?_
  refine h_take 8 (.string b3) rfl (by kernel_rfl) (by kernel_rfl) (by kernel_rfl) (fun _ _ _ h => h) (by kernel_rfl) HR6.out (by intro v hv; go_simp) ?_
  refine h_one 11 rfl (by kernel_rfl) (by kernel_rfl) (fun K hK => ?_)
  go_simp
  refine (HXO.out _).mono ?_
  rintro e wx ⟨rfl, rfl⟩
  refine hK _ _ HR6.out ?_
  clear hK K
  refine h_take 12 (.string b4) rfl (by kernel_rfl) (by kernel_rfl) (by kernel_rfl) (fun _ _ _ h => h) (by kernel_rfl) HR6.out (by intro v hv; go_simp) ?_
  refine h_take 13 (.string b5) rfl (by kernel_rfl) (by kernel_rfl) (by kernel_rfl) (fun _ _ _ h => h) (by kernel_rfl) HR6.out (by intro v hv; go_simp) ?_
  refine h_one 16 rfl (by kernel_rfl) (by kernel_rfl) (fun K hK => ?_)
  go_simp
  refine (HFM.out _).mono ?_
  rintro e wx ⟨rfl, rfl⟩
  refine hK _ _ HR6.out ?_
  clear hK K
  refine h_take 17 (.string b6) rfl (by kernel_rfl) (by kernel_rfl) (by kernel_rfl) (fun _ _ _ h => h) (by kernel_rfl) HR6.out (by intro v hv; go_simp) ?_
  refine h_take 18 (.string b7) rfl (by kernel_rfl) (by kernel_rfl) (by kernel_rfl) (fun _ _ _ h => h) (by kernel_rfl) HR6.out (by intro v hv; go_simp) ?_
  refine h_one 21 rfl (by kernel_rfl) (by kernel_rfl) (fun K hK => ?_)
  go_simp
  refine (HPG.out _).mono ?_
  rintro e x7 ⟨rfl, b7⟩
  have HB7 := Lib.hid (HB6.out.trans (b7.mono HB6.out.size))
  have HR7 := Lib.hid ((b7.block w.heap.size (Array.getElem?_eq_some_iff.1 HR6.out).1).trans HR6.out)
  clear b7
  refine hK _ _ HR7.out ?_
  clear hK K
  refine h_take 22 (.string b8) rfl (by kernel_rfl) (by kernel_rfl) (by kernel_rfl) (fun _ _ _ h => h) (by kernel_rfl) HR7.out (by intro v hv; go_simp) ?_
  refine h_take 23 (.string b8) rfl (by kernel_rfl) (by kernel_rfl) (by kernel_rfl) (fun _ _ _ h => h) (by kernel_rfl) HR7.out (fun _ _ => by kernel_rfl) ?_
  refine wpAnyH_done (by kernel_rfl) ?_ _
  go_simp
  have HI : Hid (DlRel w (.cells #[.int .i64 1, .string st, .int .u64 (zu : Int), .slice A n c, .int .u64 (zo : Int), .int .u64 (zm : Int), .string sg] 25 (0, 0)) hws l (.string b8) (.int .i64 0) x7) := ⟨0, Nat.zero_le _, rfl, by rw [HT0.out], HB7.out, HR7.out⟩
  clear HB5 HR5 HB6 HR6 HB7 HR7 a1 a2 a3 a4 a5 a6 a7 a8
  go_wp2
  go_loopw [4, 5] (fun v4 v5 wr => DlRel w (.cells #[.int .i64 1, .string st, .int .u64 (zu : Int), .slice A n c, .int .u64 (zo : Int), .int .u64 (zm : Int), .string sg] 25 (0, 0)) hws l v4 v5 wr) (fun _ v5 _ => n - (intOf v5).toNat)
  case atStart => exact HI.out
  case round =>
    obtain ⟨i, hi, rfl, rfl, hb, hrec⟩ := hrel
    rw [HL.out] at hi
    have q3 := at_cell (i := 3) hrec rfl
    have HBR := Lib.hid hb
    have HRC := Lib.hid hrec
    clear hb hrec HI
    by_cases hlt : i < n
    · obtain ⟨x, hx⟩ : ∃ x, l[i]? = some x := ⟨_, List.getElem?_eq_getElem (by rw [HL.out]; exact hlt)⟩
      obtain ⟨ad, rfl, hadl, hcx⟩ := (H1.out.below HBR.out).2 (by omega)
      obtain ⟨y0, y1, y2⟩ := dps_at l i x hx
      have k0 := hcx _ _ y0
      have k1 := hcx _ _ y1
      have k2 := hcx _ _ y2
      rw [add_one] at k1
      rw [add_two] at k2
      have hxl := HS1.out x (List.mem_of_getElem? hx)
      have hxd := HDS.out x (List.mem_of_getElem? hx)
      have hj0 := HLL.out i
      have hsj : joinw (hws ++ (l.take (i + 1)).flatMap depws) = joinw (hws ++ (l.take i).flatMap depws) ++ [32] ++ eput x.name ++ [32] ++ hashw x := by
        rw [depws_snoc hx, ← List.append_assoc]
        exact step_join (HNE.out _) x
      obtain ⟨xn, xh, xo⟩ := x
      simp only at k0 k1 k2 hxl hxd hsj
      obtain ⟨z, rfl⟩ := Int.eq_ofNat_of_zero_le hxd.1
      have p1 := eput_len xn
      have p4 := hexl_len z 16
      have HPN := Lib.hid (fun W => rput_any xn (by omega) W)
      have HXZ := Lib.hid (HHX.out z (by omega))
      have hhw : hashw ⟨xn, (z : Int), xo⟩ = hexl z 16 ++ (if xo then [33] else []) := rfl
      rw [hhw] at hsj
      obtain ⟨J, hJ⟩ : ∃ J, J = joinw (hws ++ (l.take i).flatMap depws) := ⟨_, rfl⟩
      rw [← hJ] at hj0 hsj ⊢
      have c1 : ∀ W : World, (Op.stringOp .add (tx J) { data := #[32] }).run Tryd.prog W = .ok (.string (tx (J ++ [32]))) W := fun W => add_tx W J [32] (by simp; omega)
      have c2 : ∀ W : World, (Op.stringOp .add (tx (J ++ [32])) (tx (eput xn))).run Tryd.prog W = .ok (.string (tx (J ++ [32] ++ eput xn))) W := fun W => add_tx W _ _ (by simp; omega)
      have c3 : ∀ W : World, (Op.stringOp .add (tx (J ++ [32] ++ eput xn)) { data := #[32] }).run Tryd.prog W = .ok (.string (tx (J ++ [32] ++ eput xn ++ [32]))) W := fun W => add_tx W _ [32] (by simp; omega)
      have c4 : ∀ W : World, (Op.stringOp .add (tx (J ++ [32] ++ eput xn ++ [32])) (tx (hexl z 16))).run Tryd.prog W = .ok (.string (tx (J ++ [32] ++ eput xn ++ [32] ++ hexl z 16))) W := fun W => add_tx W _ _ (by rw [p4]; simp; omega)
      have c5 : ∀ W : World, (Op.stringOp .add (tx (J ++ [32] ++ eput xn ++ [32] ++ hexl z 16)) { data := #[33] }).run Tryd.prog W = .ok (.string (tx (J ++ [32] ++ eput xn ++ [32] ++ hexl z 16 ++ [33]))) W := fun W => add_tx W _ [33] (by simp [p4]; omega)
      have HSJ := Lib.hid hsj
      unfold rsv at k0
      clear hsj hhw hJ hj0 p1 p4
      have e5 : tx (J ++ [32] ++ eput xn ++ [32] ++ hexl z 16 ++ [33]) = tx (J ++ [32] ++ eput xn ++ [32] ++ (hexl z 16 ++ [33])) := by simp
      have e4 : tx (J ++ [32] ++ eput xn ++ [32] ++ hexl z 16) = tx (J ++ [32] ++ eput xn ++ [32] ++ (hexl z 16 ++ [])) := by simp
      rw [e5] at c5
      rw [e4] at c4 c5
      have HT1 : Hid (xo = true → tx (joinw (hws ++ (l.take (i + 1)).flatMap depws)) = tx (J ++ [32] ++ eput xn ++ [32] ++ (hexl z 16 ++ [33]))) := fun h => by rw [HSJ.out, h]; rfl
      have HT2 : Hid (xo = false → tx (joinw (hws ++ (l.take (i + 1)).flatMap depws)) = tx (J ++ [32] ++ eput xn ++ [32] ++ (hexl z 16 ++ []))) := fun h => by rw [HSJ.out, h]; rfl
      clear e4 e5 HSJ
      generalize tx (J ++ [32] ++ eput xn ++ [32] ++ (hexl z 16 ++ [33])) = d5 at *
      generalize tx (J ++ [32] ++ eput xn ++ [32] ++ (hexl z 16 ++ [])) = d4 at *
      generalize tx (J ++ [32] ++ eput xn ++ [32]) = d3 at *
      generalize tx (J ++ [32] ++ eput xn) = d2 at *
      generalize tx (J ++ [32]) = d1 at *
      generalize tx J = d0 at *
      generalize tx (eput xn) = p1 at *
      generalize tx (hexl z 16) = p2 at HXZ c1 c2 c3 c4 c5
      generalize tx xn = sn at *
      have hi0 : (0 : Int) ≤ (i : Int) := by omega
      have hi1 : (i : Int) < (n : Int) := by omega
      have HK2 := Lib.hid k2
      have HK0 := Lib.hid k0
      have HK1 := Lib.hid k1
      have HAD : Hid (ad.block < wr.heap.size) := by have := HBR.out.size; show _ < _; omega
      have hS0 : (wr.drew.heap[w.heap.size]? = some (.cells #[.int .i64 1, .string st, .int .u64 (zu : Int), .slice (some ad) n c, .int .u64 (zo : Int), .int .u64 (zm : Int), .string sg] 25 (0, 0)) ∧ wr.drew.cell? (ad.add (i * 3)) = some (.string sn) ∧ wr.drew.cell? ⟨(ad.add (i * 3)).block, (ad.add (i * 3)).off + 1, none⟩ = some (.int .u64 (z : Int))) := ⟨HRC.out, k0, k1⟩
      have HS0 := Lib.hid hS0
      clear hcx y0 y1 y2 hx hxl hxd hS0 k0 k1 k2
      go_wp2_with fail
      clear q3
      refine wp_region_held (S := fun W : World => W.heap[w.heap.size]? = some (.cells #[.int .i64 1, .string st, .int .u64 (zu : Int), .slice (some ad) n c, .int .u64 (zo : Int), .int .u64 (zm : Int), .string sg] 25 (0, 0)) ∧ W.cell? (ad.add (i * 3)) = some (.string sn) ∧ W.cell? ⟨(ad.add (i * 3)).block, (ad.add (i * 3)).off + 1, none⟩ = some (.int .u64 (z : Int))) (by kernel_rfl) ?_
      refine h_take 0 (.string d0) rfl (by kernel_rfl) (by kernel_rfl) (by kernel_rfl) (fun _ _ _ h => h) (by kernel_rfl) HS0.out (fun _ _ => by kernel_rfl) ?_
      refine h_take 1 (.string d1) rfl (by kernel_rfl) (by kernel_rfl) (by kernel_rfl) (fun _ _ _ h => h) (by kernel_rfl) HS0.out (by intro v hv; go_simp) ?_
      refine h_take 2 (.pointer (some ⟨w.heap.size, 3, none⟩)) rfl (by kernel_rfl) (by kernel_rfl) (by kernel_rfl) (fun _ _ _ h => h) (by kernel_rfl) HS0.out (fun _ _ => by kernel_rfl) ?_
      refine h_take 3 (.slice (some ad) n c) rfl (by kernel_rfl) (by kernel_rfl) (by kernel_rfl) (fun _ _ _ h => h) (by kernel_rfl) HS0.out (by intro W hW; have x := at_cell (i := 3) hW.1 rfl; have x0 := hW.2.1; have x1 := hW.2.2; clear hW; go_simp) ?_
      refine h_take 4 (.int .i64 (i : Int)) rfl (by kernel_rfl) (by kernel_rfl) (by kernel_rfl) (fun _ _ _ h => h) (by kernel_rfl) HS0.out (fun _ _ => by kernel_rfl) ?_
      refine h_take 5 (.pointer (some (ad.add (i * 3)))) rfl (by kernel_rfl) (by kernel_rfl) (by kernel_rfl) (fun _ _ _ h => h) (by kernel_rfl) HS0.out (by intro W hW; go_simp) ?_
      refine h_take 6 (.pointer (some (ad.add (i * 3)))) rfl (by kernel_rfl) (by kernel_rfl) (by kernel_rfl) (fun _ _ _ h => h) (by kernel_rfl) HS0.out (by intro v hv; go_simp) ?_
      refine h_take 7 (.string sn) rfl (by kernel_rfl) (by kernel_rfl) (by kernel_rfl) (fun _ _ _ h => h) (by kernel_rfl) HS0.out (by intro W hW; have x := at_cell (i := 3) hW.1 rfl; have x0 := hW.2.1; have x1 := hW.2.2; clear hW; go_simp) ?_
      refine h_take 11 (.pointer (some ⟨w.heap.size, 3, none⟩)) rfl (by kernel_rfl) (by kernel_rfl) (by kernel_rfl) (fun _ _ _ h => h) (by kernel_rfl) HS0.out (fun _ _ => by kernel_rfl) ?_
      refine h_take 12 (.slice (some ad) n c) rfl (by kernel_rfl) (by kernel_rfl) (by kernel_rfl) (fun _ _ _ h => h) (by kernel_rfl) HS0.out (by intro W hW; have x := at_cell (i := 3) hW.1 rfl; have x0 := hW.2.1; have x1 := hW.2.2; clear hW; go_simp) ?_
      refine h_take 13 (.int .i64 (i : Int)) rfl (by kernel_rfl) (by kernel_rfl) (by kernel_rfl) (fun _ _ _ h => h) (by kernel_rfl) HS0.out (fun _ _ => by kernel_rfl) ?_
      refine h_take 14 (.pointer (some (ad.add (i * 3)))) rfl (by kernel_rfl) (by kernel_rfl) (by kernel_rfl) (fun _ _ _ h => h) (by kernel_rfl) HS0.out (by intro W hW; go_simp) ?_
      refine h_take 15 (.pointer (some ⟨(ad.add (i * 3)).block, (ad.add (i * 3)).off + 1, none⟩)) rfl (by kernel_rfl) (by kernel_rfl) (by kernel_rfl) (fun _ _ _ h => h) (by kernel_rfl) HS0.out (by intro v hv; go_simp) ?_
      refine h_take 16 (.int .u64 (z : Int)) rfl (by kernel_rfl) (by kernel_rfl) (by kernel_rfl) (fun _ _ _ h => h) (by kernel_rfl) HS0.out (by intro W hW; have x := at_cell (i := 3) hW.1 rfl; have x0 := hW.2.1; have x1 := hW.2.2; clear hW; go_simp) ?_
      refine h_one 8 rfl (by kernel_rfl) (by kernel_rfl) (fun K hK => ?_)
      go_simp
      refine (HPN.out _).mono ?_
      rintro e x9 ⟨rfl, b9⟩
      have HB9 : Hid (Below w.heap.size w x9) := HBR.out.drew.trans (b9.mono HBR.out.drew.size)
      have HS9 := Lib.hid (show x9.heap[w.heap.size]? = some (.cells #[.int .i64 1, .string st, .int .u64 (zu : Int), .slice (some ad) n c, .int .u64 (zo : Int), .int .u64 (zm : Int), .string sg] 25 (0, 0)) ∧ x9.cell? (ad.add (i * 3)) = some (.string sn) ∧ x9.cell? ⟨(ad.add (i * 3)).block, (ad.add (i * 3)).off + 1, none⟩ = some (.int .u64 (z : Int)) from ⟨(b9.block w.heap.size (Array.getElem?_eq_some_iff.1 HS0.out.1).1).trans HS0.out.1, (b9.cell (by rw [block_of_add]; exact HAD.out)).trans HS0.out.2.1, (b9.cell (p := ⟨(ad.add (i * 3)).block, (ad.add (i * 3)).off + 1, none⟩) (by show (ad.add (i * 3)).block < _; rw [block_of_add]; exact HAD.out)).trans HS0.out.2.2⟩)
      have HK9 := Lib.hid ((b9.cell (p := ⟨(ad.add (i * 3)).block, (ad.add (i * 3)).off + 2, none⟩) (by show (ad.add (i * 3)).block < _; rw [block_of_add]; exact HAD.out)).trans HK2.out)
      clear b9
      refine hK _ _ HS9.out ?_
      clear hK K
      refine h_take 9 (.string d2) rfl (by kernel_rfl) (by kernel_rfl) (by kernel_rfl) (fun _ _ _ h => h) (by kernel_rfl) HS9.out (by intro v hv; go_simp) ?_
      refine h_take 10 (.string d3) rfl (by kernel_rfl) (by kernel_rfl) (by kernel_rfl) (fun _ _ _ h => h) (by kernel_rfl) HS9.out (by intro v hv; go_simp) ?_
      refine h_one 17 rfl (by kernel_rfl) (by kernel_rfl) (fun K hK => ?_)
      go_simp
      refine (HXZ.out _).mono ?_
      rintro e wx ⟨rfl, rfl⟩
      refine hK _ _ HS9.out ?_
      clear hK K
      refine h_take 18 (.string d4) rfl (by kernel_rfl) (by kernel_rfl) (by kernel_rfl) (fun _ _ _ h => h) (by kernel_rfl) HS9.out (by intro v hv; go_simp) ?_
      refine h_take 19 (.string d4) rfl (by kernel_rfl) (by kernel_rfl) (by kernel_rfl) (fun _ _ _ h => h) (by kernel_rfl) HS9.out (fun _ _ => by kernel_rfl) ?_
      refine wpAnyH_done (by kernel_rfl) ?_ _
      go_simp
      have q3 := at_cell (i := 3) HS9.out.1 rfl
      have k2 := HK9.out
      cases xo with
      | true =>
        go_wp2
        exact ⟨⟨i + 1, by rw [HL.out]; omega, by go_num, by rw [HT1.out rfl], HB9.out, HS9.out.1⟩, by simp [intOf]; omega⟩
      | false =>
        go_wp2
        exact ⟨⟨i + 1, by rw [HL.out]; omega, by go_num, by rw [HT2.out rfl], HB9.out, HS9.out.1⟩, by simp [intOf]; omega⟩
    · obtain rfl : i = n := by omega
      have htk : l.take i = l := List.take_of_length_le (by rw [HL.out]; exact Nat.le_refl _)
      rw [htk, ← HLW.out, ← HJL.out]
      clear htk
      go_wp2
      go_ret2
      exact ⟨rfl, HBR.out⟩

end Go.Proofs.YthpnfdnhaphfgaaDoor

/- What both tell of a record: its line, or that it has none; the walk of DumpLines. -/
namespace Go.Proofs.YthpnfdnhaphfgaaDoor
open Go.RowKit

theorem ix_miss (c : UInt8) : ∀ {a : List UInt8}, (∀ b ∈ a, b ≠ c) → Lib.indexByte a c = -1
  | [], _ => rfl
  | x :: a, h => by
    have ih := ix_miss c (a := a) (fun b hb => h b (by simp [hb]))
    have hc : (x == c) = false := by simpa using h x (by simp)
    unfold Lib.indexByte
    rw [hc, ih]
    rfl
theorem joinw_mem : ∀ {ws : List (List UInt8)} {b : UInt8}, b ∈ joinw ws → b = 32 ∨ ∃ x ∈ ws, b ∈ x
  | [], b, h => by simp [joinw_nil] at h
  | [a], b, h => .inr ⟨a, by simp, by rwa [joinw_one] at h⟩
  | a :: c :: ws, b, h => by
    rw [joinw_cons a (c :: ws) (by simp), List.mem_append, List.mem_cons] at h
    rcases h with h | h | h
    · exact .inr ⟨a, by simp, h⟩
    · exact .inl h
    · rcases joinw_mem h with h | ⟨x, hx, hb⟩
      · exact .inl h
      · exact .inr ⟨x, by simp [hx], hb⟩
theorem hexl_mem (h : Nat) : ∀ (k : Nat) {b : UInt8}, b ∈ hexl h k → b ≠ 10
  | 0, b, hb => by simp [hexl] at hb
  | k + 1, b, hb => by
    rw [hexl, List.mem_cons] at hb
    rcases hb with rfl | hb
    · have : ∀ m : Fin 16, dig m.val ≠ 10 := by decide
      exact this ⟨h / 16 ^ k % 16, Nat.mod_lt _ (by omega)⟩
    · exact hexl_mem h k hb
theorem dec_mem (z : Nat) : ∀ b ∈ Lib.decDigits z, b ≠ 10 := by
  have hd : ∀ m : Fin 10, UInt8.ofNat (48 + m.val) ≠ 10 := by decide
  induction z using Nat.strongRecOn with
  | _ z ih =>
    intro b hb
    by_cases h : z < 10
    · rw [dec_small h] at hb
      obtain rfl := List.mem_singleton.1 hb
      exact hd ⟨z, h⟩
    · rw [dec_big h, List.mem_append] at hb
      rcases hb with hb | hb
      · exact ih (z / 10) (by omega) b hb
      · exact ih (z % 10) (by omega) b hb
theorem line_mem (t g : List UInt8) (zu zo zm : Nat) (l : List Dp) : ∀ b ∈ joinw (linews t zu zo zm g l), b ≠ 10 := fun b hb => by
  have he : ∀ {s : List UInt8}, b ∈ eput s → b ≠ 10 := fun h e => by
    have := (eput_mem h).1
    rw [e] at this
    exact absurd this (by decide)
  rcases joinw_mem hb with rfl | ⟨x, hx, hb⟩
  · decide
  · rcases List.mem_append.1 hx with hx | hx
    · simp only [headws, List.mem_cons, List.not_mem_nil, or_false] at hx
      rcases hx with rfl | rfl | rfl | rfl | rfl
      · exact he hb
      · exact hexl_mem _ _ hb
      · exact hexl_mem _ _ hb
      · exact dec_mem _ b hb
      · exact he hb
    · obtain ⟨d, _, hx⟩ := List.mem_flatMap.1 hx
      simp only [depws, List.mem_cons, List.not_mem_nil, or_false] at hx
      rcases hx with rfl | rfl
      · exact he hb
      · unfold hashw at hb
        rcases List.mem_append.1 hb with hb | hb
        · exact hexl_mem _ _ hb
        · split at hb
          · obtain rfl := List.mem_singleton.1 hb; decide
          · cases hb

set_option maxRecDepth 100000 in
set_option maxHeartbeats 1000000 in
theorem dline_no (k u o m : Int) (t g : List UInt8) (A : Option Addr) (n c : Nat) (l : List Dp) (hn : n ≤ 1000) (hfit : Fits ⟨k, t, u, o, m, g⟩ l) (hno : ¬ (k = 1 ∧ MayP 3 ⟨k, t, u, o, m, g⟩ l)) (w : World) (h : Reads w w.heap.size 3 A n (dps l)) :
    Calls Tryd.prog 9 #[.agg #[.int .i64 k, .string (tx t), .int .u64 u, .slice A n c, .int .u64 o, .int .u64 m, .string (tx g)]] w fun e w' => e = .returned (.tuple #[.string { data := #[] }, .int .i64 1]) ∧ Below w.heap.size w w' := by
  have H0 := Lib.hid (one_new w (.cells #[.int .i64 k, .string (tx t), .int .u64 u, .slice A n c, .int .u64 o, .int .u64 m, .string (tx g)] 25))
  have HB0 := Lib.hid ((Below.refl w.heap.size w).alloc (Nat.le_refl _) (.cells #[.int .i64 k, .string (tx t), .int .u64 u, .slice A n c, .int .u64 o, .int .u64 m, .string (tx g)] 25))
  have H1 := Lib.hid h
  have HMAY : Hid (k = 1 → ∀ W, Below w.heap.size w W → Calls Tryd.prog 20 #[.int .i64 3, .agg #[.int .i64 k, .string (tx t), .int .u64 u, .slice A n c, .int .u64 o, .int .u64 m, .string (tx g)]] W fun e w' => e = .returned (.bool false) ∧ Below W.heap.size W w') := fun hk W hW =>
    (may_any 3 ⟨k, t, u, o, m, g⟩ A n c l hn hfit W ((H1.out.below hW).more hW.size)).mono fun e w' ⟨ht, hb⟩ => ⟨ht.no (fun hm => hno ⟨hk, hm⟩), hb⟩
  have q0 := at_cell (i := 0) H0.out rfl
  have q1 := at_cell (i := 1) H0.out rfl
  have q2 := at_cell (i := 2) H0.out rfl
  have q3 := at_cell (i := 3) H0.out rfl
  have q4 := at_cell (i := 4) H0.out rfl
  have q5 := at_cell (i := 5) H0.out rfl
  have q6 := at_cell (i := 6) H0.out rfl
  clear h hfit hno hn
  generalize tx t = st at *
  generalize tx g = sg at *
  by_cases hk : k = 1
  · subst hk
    have HM := Lib.hid (HMAY.out rfl)
    clear HMAY
    go_enter Tryd.func9, Tryd.ntmps9
    go_wp2_with fail
    refine (HM.out _ HB0.out).mono ?_
    rintro e w1 ⟨rfl, b1⟩
    have hb1 := HB0.out.trans (b1.mono HB0.out.size)
    clear b1
    go_wp2
    go_ret2
    exact ⟨rfl, hb1⟩
  · have hd : (k == 1) = false := by rw [beq_eq_false_iff_ne]; exact hk
    have hd2 : (k != 1) = true := by rw [bne_iff_ne]; exact hk
    clear HMAY
    go_enter Tryd.func9, Tryd.ntmps9
    go_wp2
    go_ret2
    exact ⟨rfl, HB0.out⟩

set_option maxRecDepth 100000 in
set_option maxHeartbeats 1000000 in
theorem rline_no (k u o m : Int) (t g : List UInt8) (A : Option Addr) (n c : Nat) (l : List Dp) (hn : n ≤ 1000) (hfit : Fits ⟨k, t, u, o, m, g⟩ l) (hno : ¬ (k = 1 ∧ MayP 3 ⟨k, t, u, o, m, g⟩ l)) (w : World) (h : Reads w w.heap.size 3 A n (dps l)) :
    Calls Tryd.prog 10 #[.agg #[.int .i64 k, .string (tx t), .int .u64 u, .slice A n c, .int .u64 o, .int .u64 m, .string (tx g)]] w fun e w' => e = .returned (.tuple #[.string { data := #[] }, .int .i64 1]) ∧ Below w.heap.size w w' := by
  have H0 := Lib.hid (one_new w (.cells #[.int .i64 k, .string (tx t), .int .u64 u, .slice A n c, .int .u64 o, .int .u64 m, .string (tx g)] 25))
  have HB0 := Lib.hid ((Below.refl w.heap.size w).alloc (Nat.le_refl _) (.cells #[.int .i64 k, .string (tx t), .int .u64 u, .slice A n c, .int .u64 o, .int .u64 m, .string (tx g)] 25))
  have H1 := Lib.hid h
  have HMAY : Hid (k = 1 → ∀ W, Below w.heap.size w W → Calls Tryd.prog 27 #[.int .i64 3, .agg #[.int .i64 k, .string (tx t), .int .u64 u, .slice A n c, .int .u64 o, .int .u64 m, .string (tx g)]] W fun e w' => e = .returned (.bool false) ∧ Below W.heap.size W w') := fun hk W hW =>
    (rmay_any 3 ⟨k, t, u, o, m, g⟩ A n c l hn hfit W ((H1.out.below hW).more hW.size)).mono fun e w' ⟨ht, hb⟩ => ⟨ht.no (fun hm => hno ⟨hk, hm⟩), hb⟩
  have q0 := at_cell (i := 0) H0.out rfl
  have q1 := at_cell (i := 1) H0.out rfl
  have q2 := at_cell (i := 2) H0.out rfl
  have q3 := at_cell (i := 3) H0.out rfl
  have q4 := at_cell (i := 4) H0.out rfl
  have q5 := at_cell (i := 5) H0.out rfl
  have q6 := at_cell (i := 6) H0.out rfl
  clear h hfit hno hn
  generalize tx t = st at *
  generalize tx g = sg at *
  by_cases hk : k = 1
  · subst hk
    have HM := Lib.hid (HMAY.out rfl)
    clear HMAY
    go_enter Tryd.func10, Tryd.ntmps10
    go_wp2_with fail
    refine (HM.out _ HB0.out).mono ?_
    rintro e w1 ⟨rfl, b1⟩
    have hb1 := HB0.out.trans (b1.mono HB0.out.size)
    clear b1
    go_wp2
    go_ret2
    exact ⟨rfl, hb1⟩
  · have hd : (k == 1) = false := by rw [beq_eq_false_iff_ne]; exact hk
    have hd2 : (k != 1) = true := by rw [bne_iff_ne]; exact hk
    clear HMAY
    go_enter Tryd.func10, Tryd.ntmps10
    go_wp2
    go_ret2
    exact ⟨rfl, HB0.out⟩

/-- What both tell. -/
theorem lines_any (k u o m : Int) (t g : List UInt8) (A : Option Addr) (n c : Nat) (l : List Dp) (hnu : Nums ⟨k, t, u, o, m, g⟩ l) (hfit : Fits ⟨k, t, u, o, m, g⟩ l) (hsm : small ⟨k, t, u, o, m, g⟩ l) (w : World) (h : Reads w w.heap.size 3 A n (dps l)) :
    ∃ (ls : List UInt8) (ec : Int), (∀ b ∈ ls, b ≠ 10) ∧
      (∀ W, Below w.heap.size w W → PowTab W → Calls Tryd.prog 9 #[.agg #[.int .i64 k, .string (tx t), .int .u64 u, .slice A n c, .int .u64 o, .int .u64 m, .string (tx g)]] W fun e w' => e = .returned (.tuple #[.string (tx ls), .int .i64 ec]) ∧ Below W.heap.size W w') ∧
      (∀ W, Below w.heap.size w W → Calls Tryd.prog 10 #[.agg #[.int .i64 k, .string (tx t), .int .u64 u, .slice A n c, .int .u64 o, .int .u64 m, .string (tx g)]] W fun e w' => e = .returned (.tuple #[.string (tx ls), .int .i64 ec]) ∧ Below W.heap.size W w') := by
  have hln : l.length = n := by have := h.1; rw [dps_len] at this; omega
  have hn : n ≤ 1000 := by have := hsm.2.1; omega
  have hrd : ∀ W, Below w.heap.size w W → Reads W W.heap.size 3 A n (dps l) := fun W hW => (h.below hW).more hW.size
  by_cases hok : k = 1 ∧ MayP 3 ⟨k, t, u, o, m, g⟩ l
  · obtain ⟨rfl, hmay⟩ := hok
    obtain ⟨⟨u0, u1⟩, ⟨o0, o1⟩, ⟨m0, m1⟩, hds⟩ := hnu
    simp only at u0 u1 o0 o1 m0 m1
    obtain ⟨zu, rfl⟩ := Int.eq_ofNat_of_zero_le u0
    obtain ⟨zo, rfl⟩ := Int.eq_ofNat_of_zero_le o0
    obtain ⟨zm, rfl⟩ := Int.eq_ofNat_of_zero_le m0
    exact ⟨joinw (linews t zu zo zm g l), 0, line_mem t g zu zo zm l, fun W hW hp => dline_ok zu zo zm t g A n c l (by omega) (by omega) (by omega) hds hmay hfit hsm W hp (hrd W hW), fun W hW => rline_ok zu zo zm t g A n c l (by omega) (by omega) (by omega) hds hmay hfit hsm W (hrd W hW)⟩
  · exact ⟨[], 1, by simp, fun W hW _ => dline_no k u o m t g A n c l hn hfit hok W (hrd W hW), fun W hW => rline_no k u o m t g A n c l hn hfit hok W (hrd W hW)⟩

set_option maxRecDepth 100000 in
set_option maxHeartbeats 1000000 in
theorem dlines_any (r : Rc) (A : Option Addr) (n c : Nat) (l : List Dp) (hn : n ≤ maxLen) (hfit : Fits r l) (hnu : Nums r l) (w : World) (hl : Laid w) (hp : PowTab w) (h : Reads w w.heap.size 3 A n (dps l)) :
    Calls Tryd.prog 3 #[rcv r A n c] w fun e w' => e = .returned (.bool true) ∧ Below w.heap.size w w' := by
  have HGR : Hid (∀ W, Below w.heap.size w W → Calls Tryd.prog 7 #[rcv r A n c] W fun e w' => Tells (¬ small r l) e ∧ Below W.heap.size W w') := fun W hW =>
    great_says r A n c l W hn hfit.2.2 hfit.1 hfit.2.1 ((h.below hW).more hW.size)
  obtain ⟨k, t, u, o, m, g⟩ := r
  unfold rcv rsv at *
  simp only at HGR ⊢
  have H0 := Lib.hid (one_new w (.cells #[.int .i64 k, .string (tx t), .int .u64 u, .slice A n c, .int .u64 o, .int .u64 m, .string (tx g)] 25))
  have HB0 := Lib.hid ((Below.refl w.heap.size w).alloc (Nat.le_refl _) (.cells #[.int .i64 k, .string (tx t), .int .u64 u, .slice A n c, .int .u64 o, .int .u64 m, .string (tx g)] 25))
  have HF := Lib.hid (fun W hW => dfixed_any W (hl.below (show Below w.heap.size w W from hW)))
  have HPB : Hid (∀ W, Below w.heap.size w W → PowTab W) := fun W hW => hp.below hW
  have q0 := at_cell (i := 0) H0.out rfl
  have q1 := at_cell (i := 1) H0.out rfl
  have q2 := at_cell (i := 2) H0.out rfl
  have q3 := at_cell (i := 3) H0.out rfl
  have q4 := at_cell (i := 4) H0.out rfl
  have q5 := at_cell (i := 5) H0.out rfl
  have q6 := at_cell (i := 6) H0.out rfl
  by_cases hsm : small ⟨k, t, u, o, m, g⟩ l
  · obtain ⟨ls, ec, hls, hd, hr⟩ := lines_any k u o m t g A n c l hnu hfit hsm w h
    have HD := Lib.hid hd
    have HR := Lib.hid hr
    have HG := Lib.hid (fun W hW => (HGR.out W hW).mono fun e w' (h2 : Tells (¬ small ⟨k, t, u, o, m, g⟩ l) e ∧ Below W.heap.size W w') => (⟨h2.1.no (fun hx => hx hsm), h2.2⟩ : e = .returned (.bool false) ∧ Below W.heap.size W w'))
    have HC : Hid (∀ W, Calls Tryd.prog 11 #[.string (tx ls), .string { data := #[10] }] W fun e w' => e = .returned (.bool false) ∧ w' = W) := fun W => by
      have h2 := Tryd.strings_Contains_one (tx ls) 10 W
      rw [show Lib.indexByte (tx ls).data.toList 10 = -1 from by rw [show (tx ls).data.toList = ls by simp [tx]]; exact ix_miss 10 hls] at h2
      exact h2
    clear hd hr hls hsm HGR h hl hp hfit hnu hn
    generalize tx ls = s at *
    generalize tx t = st at *
    generalize tx g = sg at *
    go_enter Tryd.func3, Tryd.ntmps3
    go_wp2_with fail
    refine (HG.out _ HB0.out).mono ?_
    rintro e w1 ⟨rfl, b1⟩
    have hr1 := (b1.block w.heap.size (Array.getElem?_eq_some_iff.1 H0.out).1).trans H0.out
    have HR1 := Lib.hid hr1
    have HB1 := Lib.hid (HB0.out.trans (b1.mono HB0.out.size))
    clear b1 hr1 q0 q1 q2 q3 q4 q5 q6
    have q0 := at_cell (i := 0) HR1.out rfl
    have q1 := at_cell (i := 1) HR1.out rfl
    have q2 := at_cell (i := 2) HR1.out rfl
    have q3 := at_cell (i := 3) HR1.out rfl
    have q4 := at_cell (i := 4) HR1.out rfl
    have q5 := at_cell (i := 5) HR1.out rfl
    have q6 := at_cell (i := 6) HR1.out rfl
    go_wp2_with fail
    refine (HD.out _ HB1.out (HPB.out _ HB1.out)).mono ?_
    rintro e w2 ⟨rfl, b2⟩
    have hr2 := (b2.block w.heap.size (Array.getElem?_eq_some_iff.1 HR1.out).1).trans HR1.out
    have HR2 := Lib.hid hr2
    have HB2 := Lib.hid (HB1.out.trans (b2.mono HB1.out.size))
    clear b2 hr2 q0 q1 q2 q3 q4 q5 q6
    have q0 := at_cell (i := 0) HR2.out rfl
    have q1 := at_cell (i := 1) HR2.out rfl
    have q2 := at_cell (i := 2) HR2.out rfl
    have q3 := at_cell (i := 3) HR2.out rfl
    have q4 := at_cell (i := 4) HR2.out rfl
    have q5 := at_cell (i := 5) HR2.out rfl
    have q6 := at_cell (i := 6) HR2.out rfl
    go_wp2_with fail
    refine (HR.out _ HB2.out).mono ?_
    rintro e w3 ⟨rfl, b3⟩
    have HB3 := Lib.hid (HB2.out.trans (b3.mono HB2.out.size))
    clear b3 q0 q1 q2 q3 q4 q5 q6
    go_wp2_with fail
    refine (HF.out _ HB3.out).mono ?_
    rintro e w4 ⟨rfl, b4⟩
    have hb4 := HB3.out.trans (b4.mono HB3.out.size)
    clear b4
    go_wp2_with fail
    refine (HC.out _).mono ?_
    rintro e w5 ⟨rfl, rfl⟩
    go_wp2
    go_ret
    exact ⟨rfl, hb4⟩
  · have HG := Lib.hid (fun W hW => (HGR.out W hW).mono fun e w' (h2 : Tells (¬ small ⟨k, t, u, o, m, g⟩ l) e ∧ Below W.heap.size W w') => (⟨h2.1.yes hsm, h2.2⟩ : e = .returned (.bool true) ∧ Below W.heap.size W w'))
    clear hsm HGR h hl hp hfit hnu hn
    generalize tx t = st at *
    generalize tx g = sg at *
    go_enter Tryd.func3, Tryd.ntmps3
    go_wp2_with fail
    refine (HG.out _ HB0.out).mono ?_
    rintro e w1 ⟨rfl, b1⟩
    have HB1 := Lib.hid (HB0.out.trans (b1.mono HB0.out.size))
    clear b1 q0 q1 q2 q3 q4 q5 q6
    go_wp2_with fail
    refine (HF.out _ HB1.out).mono ?_
    rintro e w4 ⟨rfl, b4⟩
    have hb4 := HB1.out.trans (b4.mono HB1.out.size)
    clear b4
    go_wp2
    go_ret
    exact ⟨rfl, hb4⟩

end Go.Proofs.YthpnfdnhaphfgaaDoor

/- The way down: the table of powers of ten among those that are listed. -/
namespace Go.Proofs.YthpnfdnhaphfgaaDoor
open Go.ChangeShapes Go.WideShapes Go.ChangeAt Go.RowKit

theorem gPow : Tryd.prog.globalNamed "internal/strconv.uint64pow10" = some 2 := by kernel_rfl
theorem tPow : (Tryd.prog.globals[2]?).map (·.type) = some 105 := by kernel_rfl
theorem cPow1 : Tryd.prog.cellsOf 22 = 1 := by kernel_rfl
theorem cPow : Tryd.prog.cellsOf 105 = 20 := by kernel_rfl
theorem dPow : (Rows.laid_internal_strconv_uint64pow10 : DataW Unit) = Lib.tabData .u64 Lib.pow10Tab := by kernel_rfl

theorem pow_laid4 {W : World} (h : laidMetH Tryd.prog [("math/bits.deBruijn32tab", Rows.laid_math_bits_deBruijn32tab), ("math/bits.deBruijn64tab", Rows.laid_math_bits_deBruijn64tab), ("internal/strconv.uint64pow10", Rows.laid_internal_strconv_uint64pow10), ("tephra/crc.halves", Rows.laid_tephra_crc_halves)] W) : PowTab W := by
  rw [MakeChecks.laidMetH_plain _ _ _ (by kernel_rfl)] at h
  obtain ⟨ps, h0, _⟩ := h
  obtain ⟨_, h1⟩ := laid_tail h0
  obtain ⟨_, h2⟩ := laid_tail h1
  rw [dPow] at h2
  obtain ⟨g', t', cs, fuel, p, q, hg', ht', hvar, hd, _, _⟩ := h2
  obtain rfl := Option.some.inj (gPow.symm.trans hg')
  obtain rfl := Option.some.inj (tPow.symm.trans ht')
  unfold PowTab Lib.TabIs
  rw [hvar, ← Lib.cells_of_tab Tryd.underlying105 Tryd.underlying22 cPow1 cPow hd]

end Go.Proofs.YthpnfdnhaphfgaaDoor
