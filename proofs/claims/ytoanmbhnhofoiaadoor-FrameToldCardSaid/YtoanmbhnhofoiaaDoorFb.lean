/- The walks of what frame is made of: whether there is a version, a sum's bytes behind bytes, slices.Grow of nil, slices.Concat. -/
import Derived.WalkKit
import Derived.Outline
import Derived.Lib.Hide
import Derived.Shelf.Abstract
import Derived.Lib.AppendZerosOnto
import Derived.Test.YtoanmbhnhofoiaaDoorProg
import Derived.Test.YtoanmbhnhofoiaaDoorK2
import Derived.Test.YtoanmbhnhofoiaaDoorCs
import Derived.Test.YtoanmbhnhofoiaaDoorCc
namespace Go.Proofs.YtoanmbhnhofoiaaDoor
open Go.RowKit Go.Shelf

/-- It is a version. -/
def ver (v : Int) : Bool := decide (1 ≤ v) && decide (v ≤ 3)

theorem ver_no {v : Int} (h : ¬ 1 ≤ v ∨ ¬ v ≤ 3) : ver v = false := by
  unfold ver
  rcases h with h | h
  · rw [decide_eq_false h, Bool.false_and]
  · rw [decide_eq_false h, Bool.and_false]
theorem ver_yes {v : Int} (h : 1 ≤ v ∧ v ≤ 3) : ver v = true := by
  unfold ver
  rw [decide_eq_true h.1, decide_eq_true h.2]; rfl

set_option maxRecDepth 100000 in
set_option maxHeartbeats 400000 in
theorem isv_any (v : Int) (w : World) : Calls Tryd.prog 22 #[.int .i64 v] w fun e w' => e = .returned (.bool (ver v)) ∧ w = w' := by
  by_cases h1 : 1 ≤ v
  · by_cases h2 : v ≤ 3
    · rw [ver_yes ⟨h1, h2⟩]
      go_enter Tryd.func22, Tryd.ntmps22
      go_wp2
      go_ret
      simp
    · rw [ver_no (.inr h2)]
      go_enter Tryd.func22, Tryd.ntmps22
      go_wp2
      go_ret
      simp
  · rw [ver_no (.inl h1)]
    go_enter Tryd.func22, Tryd.ntmps22
    go_wp2
    go_ret
    simp

set_option maxRecDepth 100000 in
set_option maxHeartbeats 400000 in
/-- Behind bytes of one's own their sum is laid. -/
theorem wsum_any (B : Nat) (v : Value) (n : Nat) (bs : List UInt8) (hn : n + 4 ≤ 1073741824) (w : World) (hB : B ≤ w.heap.size) (hl : Laid w) (ho : w.ownsRow B 5 1 v n (bs.map bv)) :
    Calls Tryd.prog 23 #[v] w fun e w' => ∃ v', e = .returned v' ∧ w'.ownsRow B 5 1 v' (n + 4) ((bs ++ lb (crc bs)).map bv) ∧ Below B w w' := by
  obtain ⟨i0, hi, hz0, hz1, hz2⟩ := info_parts crc_info5
  obtain ⟨A, c, rfl, hnc, hr⟩ := own_reads ho
  have HS := Lib.hid (sum_one w (.slice A n c) bs hl ⟨A, n, c, rfl, hnc, by omega, hr⟩)
  have HO := Lib.hid ho
  have hB2 := own_block ho
  have HB2 := Lib.hid hB2
  obtain ⟨s, hs⟩ : ∃ s, s = crc bs := ⟨_, rfl⟩
  rw [← hs] at HS ⊢
  clear hs hr ho hl hnc hB2
  go_enter Tryd.func23, Tryd.ntmps23
  go_wp2_with (first
    | (go_at_call 27; refine HS.out.mono ?_; rintro e w1 ⟨rfl, rfl⟩)
    | (go_at_call 34; refine (bytes_own s _).mono ?_; rintro e w2 ⟨A2, c2, rfl, hc2, hr2, hb2⟩)
    | (at_builtin; refine wpList_append_reads _ rfl (.tmp 3) (.tmp 7) 22 rfl B 5 i0 (.int .u8 0) 1 Tryd.underlying22 hi hz0 hz1 hz2 rfl _ n (bs.map bv) rfl (own_below (HO.out.alloc _) hb2) A2 4 c2 _ _ rfl (fun e => absurd (by rw [e] at hr2; exact hr2.2 (by omega)) (by simp)) hr2 (bv_one _) (by unfold maxLen; omega) (by omega) (by have := hb2.size; simp at this; omega) ?_; intro v3 w3 ho3 hgrow3))
  go_ret
  refine ⟨_, rfl, by simpa using ho3, ?_⟩
  exact (((Below.refl B w).alloc hB _).trans (hb2.mono (by simp; omega))).grown hgrow3 (by have := hb2.size; simp at this; omega) HB2.out

set_option maxRecDepth 100000 in
set_option maxHeartbeats 1000000 in
/-- Room for so many bytes, in a slice that is nil. -/
theorem grow_nil (k : Nat) (hk : k ≤ 1073741824) (w : World) :
    Calls Tryd.prog 35 #[.slice none 0 0, .int .i64 (k : Int)] w fun e w' => ∃ v, e = .returned v ∧ w'.ownsRow w.heap.size 5 1 v 0 [] ∧ Below w.heap.size w w' := by
  obtain ⟨i0, hi, hz0, hz1, hz2⟩ := info_parts crc_info5
  rcases Nat.eq_zero_or_pos k with rfl | h0
  · go_enter Tryd.func35, Tryd.ntmps35
    go_wp2
    go_ret
    exact ⟨_, rfl, World.ownsRow_nil _ _ _ _, Below.refl _ _⟩
  · have h1 : ¬ ((k : Int) < 0) := by omega
    have h2 : wrap64 ((0 : Int) - 0) = 0 := by unfold wrap64; omega
    have h3 : wrap64 ((k : Int) - 0) = (k : Int) := by unfold wrap64; omega
    have h4 : (k : Int) > 0 := by omega
    have hold : (Builtin.firstCells i0.size 0 (.slice none 0 0)).run Tryd.prog w.drew = .ok ([] : List Value).toArray w.drew := run_firstCells_none w.drew i0.size 0 0 0
    have hrz : ∀ ty, (Builtin.append_ #[22, 3] ty #[.slice none 0 0, .int .i64 (k : Int)]).run Tryd.prog w =
      .ok (.slice (some ⟨w.heap.size, 0, none⟩) (0 + k) (grownCap w (0 + k) 0 5)) (w.drew.alloc (.cells (([] : List Value).toArray ++ Builtin.zeroCells (Value.int .u8 0).cells k ++ Builtin.zeroCells (Value.int .u8 0).cells (grownCap w (0 + k) 0 5 - (0 + k))) 5)) := fun ty => by
      exact Lib.run_append_grow_zeros w 22 3 ty 5 i0 (.int .u8 0) .i64 .i64 Tryd.underlying22 Tryd.underlying3 hi hz0 none 0 0 [] hold k h0 (by omega) (by omega) (by omega) (by rw [hz2]; omega)
        (growslice_fits (by omega) (by rw [hz2]; omega))
    have hGn : 0 + k ≤ grownCap w (0 + k) 0 5 := grownCap_ge w _ _ _
    have hG63 := grownCap_le_maxLen w (0 + k) 0 5 (by unfold maxLen; omega)
    obtain ⟨G, hG⟩ : ∃ G, G = grownCap w (0 + k) 0 5 := ⟨_, rfl⟩
    rw [← hG] at hrz hGn hG63
    obtain ⟨cs, hcs⟩ : ∃ cs : Array Value, cs = (([] : List Value).toArray ++ Builtin.zeroCells (Value.int .u8 0).cells k ++ Builtin.zeroCells (Value.int .u8 0).cells (G - (0 + k))) := ⟨_, rfl⟩
    have hcl : cs.size = G := by rw [hcs]; simp [Builtin.zeroCells, Value.cells]; omega
    rw [← hcs] at hrz
    have HCL := Lib.hid hcl
    have HG63 := Lib.hid hG63
    have hG' : G ≤ 9223372036854775807 := by unfold maxLen at hG63; omega
    clear hold hG hcs hcl hG63
    go_enter Tryd.func35, Tryd.ntmps35
    go_wp2_with (at_builtin; refine Lib.wpList_append_run _ rfl _ _ _ _ rfl _ _ rfl rfl _ _ (hrz _) ?_)
    go_ret
    refine ⟨_, rfl, ?_, ((Below.refl _ w).drew).alloc (Nat.le_refl _) _⟩
    exact ownsRow_of_block (cs := cs.toList) (Nat.le_refl _) (by show (w.heap.push _)[w.heap.size]? = _; simp) (Nat.zero_le _) HG63.out (by simpa using HCL.out) (by simp)

/-- Rows of bytes, each of them nil or not. -/
def ARow (w : World) (B : Nat) (v : Value) (bs : List UInt8) : Prop := ∃ A n c, v = .slice A n c ∧ n ≤ c ∧ n ≤ 1073741824 ∧ (A = none → c = 0) ∧ Reads w B 1 A n (bs.map bv)
def ARows (w : World) (B : Nat) (vs : List Value) (ps : List (List UInt8)) : Prop := vs.length = ps.length ∧ ∀ (i : Nat) (v : Value), vs[i]? = some v → ∃ bs : List UInt8, ps[i]? = some bs ∧ ARow w B v bs
theorem ARow.below {w w' : World} {B : Nat} {v : Value} {bs : List UInt8} (h : ARow w B v bs) (hb : Below B w w') : ARow w' B v bs := by
  obtain ⟨A, n, c, h1, h2, h3, h4, h5⟩ := h
  exact ⟨A, n, c, h1, h2, h3, h4, h5.below hb⟩
theorem ARow.more {w : World} {B B' : Nat} {v : Value} {bs : List UInt8} (h : ARow w B v bs) (hB : B ≤ B') : ARow w B' v bs := by
  obtain ⟨A, n, c, h1, h2, h3, h4, h5⟩ := h
  exact ⟨A, n, c, h1, h2, h3, h4, h5.more hB⟩

def SRel (ps : List (List UInt8)) (w : World) (v idx : Value) (wr : World) : Prop := ∃ j, j ≤ ps.length ∧ idx = .int .i64 (j : Int) ∧ v = .int .i64 ((ps.take j).flatten.length : Int) ∧ w = wr
def CRel (ps : List (List UInt8)) (w : World) (v idx : Value) (wr : World) : Prop := ∃ j, j ≤ ps.length ∧ idx = .int .i64 (j : Int) ∧ wr.ownsRow w.heap.size 5 1 v (ps.take j).flatten.length ((ps.take j).flatten.map bv) ∧ Below w.heap.size w wr

set_option maxRecDepth 100000 in
set_option maxHeartbeats 400000 in
theorem concat_any (L : Option Addr) (m d : Nat) (vs : List Value) (ps : List (List UInt8)) (hm : m ≤ 1073741824) (hbig : ps.flatten.length ≤ 1073741824) (w : World) (B : Nat) (hB : B ≤ w.heap.size) (hr : Reads w B 1 L m vs) (hp : ARows w B vs ps) :
    Calls Tryd.prog 28 #[.slice L m d] w fun e w' => ∃ v, e = .returned v ∧ w'.ownsRow w.heap.size 5 1 v ps.flatten.length (ps.flatten.map bv) ∧ Below w.heap.size w w' := by
  obtain ⟨i0, hi0, hz0, hz1, hz2⟩ := info_parts crc_info5
  have hml : ps.length = m := by have := hr.1; have := hp.1; omega
  have hstep : ∀ i, i < m → ∃ p, ps[i]? = some p ∧ (ps.take (i + 1)).flatten = (ps.take i).flatten ++ p ∧ (ps.take (i + 1)).flatten.length ≤ ps.flatten.length := by
    intro i h
    obtain ⟨p, hpi⟩ : ∃ p, ps[i]? = some p := ⟨_, List.getElem?_eq_getElem (by omega)⟩
    refine ⟨p, hpi, by rw [List.take_add_one, hpi]; simp, ?_⟩
    have e : ps = ps.take (i + 1) ++ ps.drop (i + 1) := (List.take_append_drop _ _).symm
    have : ps.flatten.length = (ps.take (i + 1)).flatten.length + (ps.drop (i + 1)).flatten.length := by
      conv => lhs; rw [e]
      rw [List.flatten_append, List.length_append]
    omega
  have HSTEP := Lib.hid hstep
  have HML := Lib.hid hml
  have HP := Lib.hid hp
  have HBIG := Lib.hid hbig
  clear hml hp hbig hstep
  go_enter Tryd.func28, Tryd.ntmps28
  go_wp2
  go_loopw [3, 11] (fun v idx wr => SRel ps w v idx wr) (fun v idx wr => m - (intOf idx).toNat)
  case atStart => exact ⟨0, by omega, rfl, rfl, rfl⟩
  case round =>
    obtain ⟨i, hi, rfl, rfl, rfl⟩ := hrel
    rw [HML.out] at hi
    by_cases hlt : i < m
    · obtain ⟨ad, u, rfl, hadb, hx, hcell⟩ := hr.at_ hlt
      obtain ⟨bs, hbs, A, n, c, rfl, hnc, hnb, hA, hrb⟩ := HP.out.2 i u hx
      have hbn : bs.length = n := by have := hrb.1; simpa using this
      obtain ⟨p, hpi, hpf, hpl⟩ := HSTEP.out i hlt
      obtain rfl : bs = p := by rw [hbs] at hpi; injection hpi
      have hsum : (ps.take (i + 1)).flatten.length = (ps.take i).flatten.length + n := by rw [hpf, List.length_append, hbn]
      obtain ⟨s, hs⟩ : ∃ s, s = (ps.take i).flatten.length := ⟨_, rfl⟩
      rw [← hs] at hsum ⊢
      have hs0 : s + n ≤ 1073741824 := by have := HBIG.out; omega
      have HSUM := Lib.hid hsum
      clear hs hsum hpf hpl hpi hbs hx hbn hrb hA
      have hnot : ¬ ((s : Int) + (n : Int) < 0) := by omega
      go_wp2
      exact ⟨⟨i + 1, by rw [HML.out]; omega, by go_num, by rw [HSUM.out]; go_num, rfl⟩, by simp [intOf]; omega⟩
    · obtain rfl : i = m := by omega
      have hall : ps.take i = ps := List.take_of_length_le (by rw [HML.out]; omega)
      rw [hall]
      obtain ⟨s, hs⟩ : ∃ s, s = ps.flatten.length := ⟨_, rfl⟩
      rw [← hs]
      have hsb : s ≤ 1073741824 := by have := HBIG.out; omega
      clear hs hall
      go_wp2_with (go_at_call 35; refine (grow_nil s hsb _).mono ?_; rintro e w1 ⟨v1, rfl, ho1, hb1⟩)
      go_loopw [6, 27] (fun v idx wr => CRel ps w v idx wr) (fun v idx wr => i - (intOf idx).toNat)
      case atStart => exact ⟨0, by omega, rfl, by simpa using ho1, hb1⟩
      case round =>
        obtain ⟨j, hj, rfl, ho, hb⟩ := hrel
        rw [HML.out] at hj
        by_cases hjt : j < i
        · obtain ⟨ad, u, rfl, hadb, hx, hcell0⟩ := hr.at_ hjt
          obtain ⟨bs, hbs, A, n, c, rfl, hnc, hnb, hA, hrb0⟩ := HP.out.2 j u hx
          have hcell := (hb.cell (p := ad.add j) (by rw [block_of_add]; omega)).trans hcell0
          have hrb := (hrb0.more hB).below hb
          have hbn : bs.length = n := by have := hrb.1; simpa using this
          obtain ⟨p, hpi, hpf, hpl⟩ := HSTEP.out j hjt
          obtain rfl : bs = p := by rw [hbs] at hpi; injection hpi
          have hsum : (ps.take (j + 1)).flatten.length = (ps.take j).flatten.length + n := by rw [hpf, List.length_append, hbn]
          have hmap : (ps.take (j + 1)).flatten.map bv = (ps.take j).flatten.map bv ++ bs.map bv := by rw [hpf, List.map_append]
          have hs0 : (ps.take j).flatten.length + n ≤ 1073741824 := by have := HBIG.out; omega
          have HSUM := Lib.hid hsum
          have HMAP := Lib.hid hmap
          have HRB := Lib.hid hrb
          clear hsum hmap hpf hpl hpi hbs hx hbn hcell0 hrb0 hrb
          go_wp2_with (at_builtin; refine wpList_append_reads _ rfl (.tmp 31) (.tmp 32) 22 rfl w.heap.size 5 i0 (.int .u8 0) 1 Tryd.underlying22 hi0 hz0 hz1 hz2 rfl _ _ _ rfl ho A n c _ _ rfl hA HRB.out (bv_one _) (by unfold maxLen; omega) (by omega) hb.size ?_; intro v3 w3 ho3 hgrow3)
          refine ⟨⟨j + 1, by rw [HML.out]; omega, by go_num, by rw [HSUM.out, HMAP.out]; exact ho3, hb.grown hgrow3 hb.size (own_block ho)⟩, by simp [intOf]; omega⟩
        · obtain rfl : j = i := by omega
          have hall : ps.take j = ps := List.take_of_length_le (by rw [HML.out]; omega)
          rw [hall] at ho
          go_wp2
          go_ret
          exact ⟨_, rfl, ho, hb⟩

end Go.Proofs.YtoanmbhnhofoiaaDoor
