/- The walk of CrcTold: it returns true at any bytes, any place and any bits. -/
import Derived.Test.YtbbkbpclhohglaaDoorCg
import Derived.Test.YtbbkbpclhohglaaDoorK2
import Derived.Deep.AppendLies
namespace Go.Proofs.YtbbkbpclhohglaaDoor
open Go.RowKit

set_option maxRecDepth 100000 in
set_option maxHeartbeats 400000 in
theorem told_long (A : Option Addr) (n c : Nat) (x y : Int) (h : 2000 < n) (w : World) (hl : Laid w) :
    Calls Tryd.prog 5 #[.slice A n c, .int .u16 x, .int .u32 y] w fun e w' => e = .returned (.bool true) ∧ Below w.heap.size w w' := by
  have HF := Lib.hid (fixed_any w hl)
  clear hl
  go_enter Tryd.func5, Tryd.ntmps5
  go_wp2_with (go_at_call 7; refine HF.out.mono ?_; rintro e w3 ⟨rfl, hb3⟩)
  go_ret
  exact ⟨rfl, hb3⟩

theorem and_one (y k t : Nat) (hy : y < 4294967296) (ht : t = y / 2 ^ k % 2) : bits .and .u32 ((y : Int) / 2 ^ k) 1 = (t : Int) := by
  have e : ((y : Int) / 2 ^ k) = ((y / 2 ^ k : Nat) : Int) := by simp
  have hlt : y / 2 ^ k < 4294967296 := Nat.lt_of_le_of_lt (Nat.div_le_self _ _) hy
  rw [e]
  refine (u32_and_nat (y / 2 ^ k) 1 hlt (by omega)).trans ?_
  rw [Nat.and_one_is_mod, ht]

theorem flip_val (x : UInt8) (b : Nat) (hb : b < 8) : bv (x ^^^ UInt8.ofNat (2 ^ b)) = .int .u8 (bits .xor .u8 (x.toNat : Int) (2 ^ b % 256)) := by
  have h1 : 2 ^ b < 256 := Nat.lt_of_lt_of_le (Nat.pow_lt_pow_right (by omega) hb) (by decide)
  have h2 : (UInt8.ofNat (2 ^ b)).toNat = 2 ^ b := by simp; omega
  have h3 : ((2 : Int) ^ b % 256) = ((2 ^ b : Nat) : Int) := by
    have : ((2 : Int) ^ b) = ((2 ^ b : Nat) : Int) := by simp
    rw [this]
    omega
  rw [h3, u8_xor_nat _ _ x.toNat_lt h1, bv, UInt8.toNat_xor, h2]

theorem x32_flip (x : UInt8) (b : Nat) (hb : b < 8) : x32 (x ^^^ UInt8.ofNat (2 ^ b)) = x32 x ^^^ (1#32 <<< b) := by
  rw [x32_xor]
  congr 1
  have : ∀ j : Fin 8, x32 (UInt8.ofNat (2 ^ j.val)) = 1#32 <<< j.val := by decide
  exact this ⟨b, hb⟩

theorem same_told {a b : W32} {m : Nat} (h : a = b ↔ m = 0) : (((a.toNat : Int) == (b.toNat : Int)) == decide (m = 0)) = true := by
  by_cases hm : m = 0
  · rw [h.2 hm]
    simp [hm]
  · have h1 : ¬ a.toNat = b.toNat := fun e => hm (h.1 (BitVec.eq_of_toNat_eq e))
    have h2 : ((a.toNat : Int) == (b.toNat : Int)) = false := by
      rw [beq_eq_false_iff_ne]
      intro e
      exact h1 (by omega)
    rw [h2]
    simp [hm]

/-- At the head of a round: so many bits of the window have been gone over. -/
def WRel (w : World) (c0 : List UInt8) (N first g cap : Nat) (same idx : Value) (wr : World) : Prop :=
  ∃ (k m : Nat) (row : List UInt8), k ≤ 32 ∧ idx = .int .i64 (k : Int) ∧ same = .bool (decide (m = 0)) ∧ wr.ownsRow w.heap.size 5 1 (.slice (some ⟨g, 0, none⟩) N cap) N (row.map bv) ∧ Turned c0 row first k m ∧ Below w.heap.size w wr

set_option maxRecDepth 100000 in
set_option maxHeartbeats 1000000 in
theorem told_short (A : Option Addr) (n c bit y : Nat) (bs : List UInt8) (hn : n ≤ 2000) (hc : n ≤ c) (hA : A = none → c = 0) (hbit : bit < 65536) (hy : y < 4294967296) (w : World) (hl : Laid w) (hr : Reads w w.heap.size 1 A n (bs.map bv)) :
    Calls Tryd.prog 5 #[.slice A n c, .int .u16 (bit : Int), .int .u32 (y : Int)] w fun e w' => e = .returned (.bool true) ∧ Below w.heap.size w w' := by
  obtain ⟨i0, hi0, hz0, hz1, hz2⟩ := info_parts info5
  have hbn : bs.length = n := by have := hr.1; simpa using this
  have HSUM : Hid (∀ (W X : World) (g : Nat), Below w.heap.size w W → g = W.heap.size → X = W.alloc (.cells #[.slice A n c] 24) → Calls Tryd.prog 8 #[.slice (some ⟨g, 0, none⟩) 1 1] X fun e w' => e = .returned (wv (crc bs)) ∧ X = w') := by
    intro W X g hW hg hX
    subst hg
    subst hX
    exact sum_one W (.slice A n c) bs (hl.below hW) ((PRow.below ⟨_, _, _, rfl, hc, by omega, hr⟩ hW).more hW.size)
  have HB : Hid (∀ W, Calls Tryd.prog 12 #[wv (crc bs)] W fun e w' => ∃ A4 c4, e = .returned (.slice A4 4 c4) ∧ 4 ≤ c4 ∧ Reads w' w'.heap.size 1 A4 4 ((lb (crc bs)).map bv) ∧ Below W.heap.size W w') := fun W => bytes_own _ W
  have hle : le4 (lb (crc bs)) = crc bs := le4_lb _
  obtain ⟨ls, hls⟩ : ∃ ls, ls = lb (crc bs) := ⟨_, rfl⟩
  have hll : ls.length = 4 := by rw [hls]; rfl
  rw [← hls] at HB hle
  unfold wv at HSUM HB
  obtain ⟨z, hz⟩ : ∃ z, z = (crc bs).toNat := ⟨_, rfl⟩
  rw [← hz] at HSUM HB
  have HLE := Lib.hid (And.intro hle hll)
  have HL := Lib.hid hl
  have HBN := Lib.hid hbn
  have HY := Lib.hid hy
  clear hle hll hls hl hbn hz hy
  have hone := bv_one bs
  have hone2 := bv_one ls
  have hal := hr.alloc (Nat.le_refl _) (.cells #[] 5)
  go_enter Tryd.func5, Tryd.ntmps5
  go_wp2_with (at_builtin; refine wpList_append_reads _ rfl (.tmp 18) (.tmp 19) 24 rfl w.heap.size 5 i0 (.int .u8 0) 1 Tryd.underlying24 hi0 hz0 hz1 hz2 rfl (.slice (some ⟨w.heap.size, 0, none⟩) 0 0) 0 [] rfl (own_empty _ _) A n c w.heap.size _ rfl hA hal hone (by unfold maxLen; omega) (by omega) (by simp) ?_; intro v3 w3 ho3 hg3)
  rw [Nat.zero_add, List.nil_append] at ho3
  have hb3 : Below w.heap.size w w3 := ((Below.refl _ w).alloc (Nat.le_refl _) _).grown hg3 (by simp) (fun k hk => by simp [Value.ownBlock] at hk; omega)
  clear hg3 hal
  refine (HSUM.out w3 _ _ hb3 rfl rfl).mono ?_
  rintro e w' ⟨rfl, rfl⟩
  have hb4 := hb3.alloc hb3.size (.cells #[.slice A n c] 24)
  have ho4 := ho3.alloc (.cells #[.slice A n c] 24)
  clear hb3 ho3
  go_wp2_with fail
  refine (HB.out _).mono ?_
  rintro e w5 ⟨A4, c4, rfl, hc4, hr4, hb5⟩
  have hA4 : A4 = none → c4 = 0 := fun h => by
    obtain ⟨ad, e, _⟩ := hr4.2 (by omega)
    rw [h] at e
    cases e
  have hb6 := hb4.trans (hb5.mono hb4.size)
  have ho5 := own_below ho4 hb5
  clear hb4 ho4 hb5
  go_wp2_with (at_builtin; refine wpList_append_reads _ rfl (.tmp 20) (.tmp 24) 24 rfl w.heap.size 5 i0 (.int .u8 0) 1 Tryd.underlying24 hi0 hz0 hz1 hz2 rfl v3 n _ rfl ho5 A4 4 c4 w5.heap.size _ rfl hA4 hr4 hone2 (by unfold maxLen; omega) (by omega) (by have := hb6.size; omega) ?_; intro v7 w7 ho7 hg7; obtain ⟨g, cap, rfl, hgb, hgl⟩ := ho7.form (by omega); obtain ⟨N, hN⟩ : ∃ N, N = n + 4 := ⟨_, rfl⟩; rw [← hN] at ho7 ⊢; have hN2 : (n : Int) + 4 = (N : Int) := (by omega); obtain ⟨first, hf⟩ : ∃ first, first = bit % (8 * N) := ⟨_, rfl⟩; have k0 : (bit : Int).tmod (8 * (N : Int)) = (first : Int) := (by rw [hf, Int.tmod_eq_emod_of_nonneg (by omega)]; simp); have hfl : first < 8 * N := (by rw [hf]; exact Nat.mod_lt _ (by omega)); have HN := Lib.hid hN; clear hN hf)
  rw [← List.map_append] at ho7
  have hb7 := hb6.grown hg7 hb6.size (own_block ho5)
  have HO7 := Lib.hid ho7
  clear hg7 ho7 ho5 hr4 hA4 hc4 hb6
  clear k0 hbit
  obtain ⟨c0, hc0⟩ : ∃ c0, c0 = bs ++ ls := ⟨_, rfl⟩
  rw [← hc0] at HO7
  have hcl : c0.length = N := by rw [hc0, List.length_append, HBN.out, HLE.out.2, HN.out]
  have HC0 := Lib.hid hc0
  have HCL := Lib.hid hcl
  clear hc0 hcl hone hone2
  go_loopw [9, 38] (fun same idx wr => WRel w c0 N first g cap same idx wr) (fun _ idx wr => 32 - (intOf idx).toNat)
  case atStart => exact ⟨0, 0, c0, by omega, rfl, rfl, HO7.out, Turned.start c0 first, hb7⟩
  case round =>
    obtain ⟨k, m, row, hk, rfl, rfl, ho, ht, hb⟩ := hrel
    have HT := Lib.hid ht
    by_cases hk32 : k < 32
    · have hat0 : first + k < 16100 := by omega
      obtain ⟨pos, hpos⟩ : ∃ pos, pos = first + k := ⟨_, rfl⟩
      have e1 : (first : Int) + (k : Int) = (pos : Int) := by omega
      obtain ⟨t, ht1⟩ : ∃ t, t = y / 2 ^ k % 2 := ⟨_, rfl⟩
      have e2 : bits .and .u32 ((y : Int) / 2 ^ k) 1 = (t : Int) := and_one y k t HY.out ht1
      have t2 : t = 0 ∨ t = 1 := by omega
      have HPOS := Lib.hid hpos
      have HT1 := Lib.hid ht1
      clear hpos ht1 ht
      by_cases htk : t = 1 ∧ pos < 8 * N
      · obtain ⟨rfl, hpl⟩ := htk
        obtain ⟨i, hi⟩ : ∃ i, i = pos / 8 := ⟨_, rfl⟩
        obtain ⟨b, hb8⟩ : ∃ b, b = pos % 8 := ⟨_, rfl⟩
        have e3 : (pos : Int) / 8 = (i : Int) := by omega
        have e4 : (pos : Int) % 8 = (b : Int) := by omega
        have hiN : i < N := by omega
        have hb7' : b < 8 := by omega
        have hrl : row.length = N := HT.out.1.trans HCL.out
        have hir : i < row.length := by omega
        have hcell : wr.cell? ⟨g, i, none⟩ = some (.int .u8 (row[i].toNat : Int)) := by
          rw [ho.cellAt i (by omega), List.getElem?_map, List.getElem?_eq_getElem hir]
          rfl
        have hfz : wr.frozen? ⟨g, i, none⟩ = false := ho.frozenAt i
        obtain ⟨xo, hxo⟩ : ∃ xo, xo = row[i].toNat := ⟨_, rfl⟩
        rw [← hxo] at hcell
        have HXO := Lib.hid hxo
        have HO := Lib.hid ho
        have HI := Lib.hid hi
        have HB8 := Lib.hid hb8
        clear hxo ho hi hb8 hat0
        go_wp2_with fail
        have hp := HPOS.out
        have hi := HI.out
        have hb8 := HB8.out
        have hst := HO.out.stored i (bv (row[i] ^^^ UInt8.ofNat (2 ^ b)))
        have hset : (row.map bv).set i (bv (row[i] ^^^ UInt8.ofNat (2 ^ b))) = (row.set i (row[i] ^^^ UInt8.ofNat (2 ^ b))).map bv := by rw [List.map_set]
        have hv : bv (row[i] ^^^ UInt8.ofNat (2 ^ b)) = .int .u8 (bits .xor .u8 (xo : Int) (2 ^ b % 256)) := by rw [HXO.out]; exact flip_val _ b hb7'
        have hx := x32_flip row[i] b hb7'
        rw [hset] at hst
        have hgr := hb.grown hst.2 (by have := hb.size; omega) (by intro g' hg'; injection hg' with hg'; omega)
        rw [hv] at hst hgr
        refine ⟨⟨k + 1, m + 2 ^ k, row.set i (row[i] ^^^ UInt8.ofNat (2 ^ b)), by omega, by go_num, ?_, hst.1, ?_, hgr⟩, by simp [intOf]; omega⟩
        · have : 0 < 2 ^ k := Nat.two_pow_pos k
          rw [decide_eq_false (by omega)]
        · subst hp
          subst hi
          subst hb8
          exact HT.out.turn hk32 (by rw [HCL.out]; exact hpl) _ (by omega) hx
      · have hkeep := HT.out.keep
        have HK := Lib.hid hkeep
        have HO := Lib.hid ho
        clear hkeep ho hat0
        rcases t2 with rfl | rfl
        · go_wp2_with fail
          exact ⟨⟨k + 1, m, row, by omega, by go_num, rfl, HO.out, HK.out, hb⟩, by simp [intOf]; omega⟩
        · have hpl : ¬ pos < 8 * N := fun h => htk ⟨rfl, h⟩
          clear htk
          go_wp2_with fail
          exact ⟨⟨k + 1, m, row, by omega, by go_num, rfl, HO.out, HK.out, hb⟩, by simp [intOf]; omega⟩
    · obtain rfl : k = 32 := by omega
      have htold := ht.told HC0.out HLE.out.2 HLE.out.1 HBN.out
      have hrl : row.length = N := ht.1.trans HCL.out
      have hrow := Reads.of_own ho
      have hcap : N ≤ cap := by
        obtain ⟨_, ⟨h, _⟩ | ⟨g', cap', cur, h, _, _, hle, _⟩⟩ := ho
        · cases h
        · cases h
          exact hle
      have hread := read_ok (some ⟨g, 0, none⟩) N cap n row (by omega) hcap (by have := HN.out; omega) wr hrow
      have hq : (row.drop n).take 4 = row.drop n := List.take_of_length_le (by rw [List.length_drop, hrl, HN.out]; omega)
      rw [hq] at hread
      have HS : Hid (∀ (W X : World) (g' : Nat), Below wr.heap.size wr W → g' = W.heap.size → X = W.alloc (.cells #[.slice (some ⟨g, 0, none⟩) n cap] 24) → Calls Tryd.prog 8 #[.slice (some ⟨g', 0, none⟩) 1 1] X fun e w' => e = .returned (wv (crc (row.take n))) ∧ X = w') := by
        intro W X g' hW hg hX
        subst hg
        subst hX
        have hrt := hrow.take (k := n) (by have := HN.out; omega)
        rw [← List.map_take] at hrt
        exact sum_one W _ (row.take n) (HL.out.below (hb.trans (hW.mono hb.size))) ((PRow.below ⟨_, _, _, rfl, by have := HN.out; omega, by omega, hrt⟩ hW).more hW.size)
      have HF : Hid (∀ W, Below w.heap.size w W → Calls Tryd.prog 7 #[] W fun e w' => e = .returned (.bool true) ∧ Below W.heap.size W w') := fun W h => fixed_any W (HL.out.below h)
      unfold wv at hread HS
      have hcmp : ((((le4 (row.drop n)).toNat : Int) == ((crc (row.take n)).toNat : Int)) == decide (m = 0)) = true := same_told htold
      generalize (le4 (row.drop n)).toNat = za at hread hcmp
      generalize (crc (row.take n)).toNat = zb at HS hcmp
      have HR := Lib.hid hread
      have HCMP := Lib.hid hcmp
      have hncap : n ≤ cap := by have := HN.out; omega
      clear hread hcmp htold hrow hq ho ht HT hk32
      go_wp2_with fail
      refine HR.out.mono ?_
      rintro e w' ⟨rfl, rfl⟩
      go_wp2_with fail
      refine (HF.out _ hb).mono ?_
      rintro e w8 ⟨rfl, hb8⟩
      go_wp2_with fail
      refine (HS.out w8 _ _ hb8 rfl rfl).mono ?_
      rintro e w' ⟨rfl, rfl⟩
      have hb9 := hb8.alloc hb8.size (.cells #[.slice (some ⟨g, 0, none⟩) n cap] 24)
      have hcm : ((za : Int) == (zb : Int)) = decide (m = 0) := by simpa using HCMP.out
      clear HS HR HF HB HSUM
      go_wp2_with fail
      go_ret
      exact ⟨rfl, hb.trans (hb9.mono hb.size)⟩

/-- **CrcTold answers true, at any bytes, any place and any bits.** -/
theorem told_all (A : Option Addr) (n c bit y : Nat) (bs : List UInt8) (hc : n ≤ c) (hA : A = none → c = 0) (hbit : bit < 65536) (hy : y < 4294967296) (w : World) (hl : Laid w) (hr : Reads w w.heap.size 1 A n (bs.map bv)) :
    Calls Tryd.prog 5 #[.slice A n c, .int .u16 (bit : Int), .int .u32 (y : Int)] w fun e w' => e = .returned (.bool true) ∧ Below w.heap.size w w' := by
  by_cases h : 2000 < n
  · exact told_long A n c bit y h w hl
  · exact told_short A n c bit y bs (by omega) hc hA hbit hy w hl hr
end Go.Proofs.YtbbkbpclhohglaaDoor
