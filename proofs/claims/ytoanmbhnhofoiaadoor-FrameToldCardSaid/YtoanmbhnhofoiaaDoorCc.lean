/- The walks of crc.Bytes and crc.Read: at any sum; at any bytes and any place. -/
import Derived.Test.YtoanmbhnhofoiaaDoorCb
import Derived.Test.YtoanmbhnhofoiaaDoorCn
namespace Go.Proofs.YtoanmbhnhofoiaaDoor
open Go.RowKit

theorem crc_or_add (a x k : Nat) (ha : a < 2 ^ k) : a ||| (x * 2 ^ k) = a + x * 2 ^ k := by
  have := Nat.two_pow_add_eq_or_of_lt ha x
  rw [Nat.or_comm, Nat.mul_comm, ← this, Nat.add_comm]

theorem le4_snoc (x : UInt8) : ∀ q : List UInt8, q.length ≤ 3 → (le4 (q ++ [x])).toNat = (le4 q).toNat + x.toNat * 2 ^ (8 * q.length)
  | [], _ => by
    rw [List.nil_append, le4_cons _ _ (by simp)]
    simp [le4]
  | y :: q, h => by
    simp only [List.length_cons] at h
    rw [List.cons_append, le4_cons _ _ (by simp; omega), le4_cons _ _ (by omega), le4_snoc x q (by omega), List.length_cons, show 8 * (q.length + 1) = 8 * q.length + 8 by omega, Nat.pow_add, ← Nat.mul_assoc, Nat.add_mul]
    omega

theorem le4_or (x : UInt8) (q : List UInt8) (h : q.length ≤ 3) : bits .or .u32 ((le4 q).toNat : Int) ((x.toNat * 2 ^ (8 * q.length) : Nat) : Int) = ((le4 (q ++ [x])).toNat : Int) := by
  have h1 := le4_lt q (by omega)
  have hx := x.toNat_lt
  have h3 : x.toNat * 2 ^ (8 * q.length) < 4294967296 := by
    have h4 : 2 ^ (8 * q.length) ≤ 2 ^ 24 := Nat.pow_le_pow_right (by omega) (by omega)
    have h5 : x.toNat * 2 ^ (8 * q.length) ≤ 255 * 2 ^ 24 := Nat.mul_le_mul (by omega) h4
    omega
  rw [u32_or_nat _ _ (le4 q).isLt h3, crc_or_add _ _ _ h1, le4_snoc x q h]

def lbrow (s : W32) (j : Nat) : List UInt8 := (List.range 4).map (fun i => if i < j then nth s i else 0)

theorem lbrow_set (s : W32) (j : Nat) (h : j < 4) : ((lbrow s j).map bv).set j (bv (nth s j)) = (lbrow s (j + 1)).map bv := by
  obtain rfl | rfl | rfl | rfl : j = 0 ∨ j = 1 ∨ j = 2 ∨ j = 3 := by omega
  all_goals rfl
theorem nth_val (s : W32) (j : Nat) : bv (nth s j) = .int .u8 ((s.toNat / 2 ^ (8 * j) % 256 : Nat) : Int) := bv_ofNat (Nat.mod_lt _ (by omega))

theorem crc_info5 : (Tryd.prog.info? 5).map (fun i => (i.zero, i.size, i.bytes)) = some (some (.int .u8 0), 1, 1) := by kernel_rfl

theorem _root_.Go.World.ownsRow.cells_eq {w : World} {base : Nat} {e : TypeId} {size : Nat} {v : Value} {n : Nat} {xs ys : List Value} (h : w.ownsRow base e size v n xs) (he : xs = ys) : w.ownsRow base e size v n ys := he ▸ h

def BRel (s : W32) (w : World) (idx : Value) (wr : World) : Prop :=
  ∃ j : Nat, j ≤ 4 ∧ idx = .int .i64 (j : Int) ∧ wr.ownsRow w.heap.size 5 1 (.slice (some ⟨w.heap.size, 0, none⟩) 4 4) 4 ((lbrow s j).map bv) ∧ Below w.heap.size w wr

set_option maxRecDepth 100000 in
set_option maxHeartbeats 400000 in
theorem bytes_any (s : W32) (w : World) :
    Calls Tryd.prog 34 #[wv s] w fun e w' => ∃ v, e = .returned v ∧ w'.ownsRow w.heap.size 5 1 v 4 ((lb s).map bv) ∧ Below w.heap.size w w' := by
  obtain ⟨i0, hi, hz0, hz1, hz2⟩ := info_parts crc_info5
  have hv : wv s = .int .u32 (s.toNat : Int) := rfl
  obtain ⟨a, ha⟩ : ∃ a, a = s.toNat := ⟨_, rfl⟩
  rw [hv, ← ha]
  have HA := Lib.hid ha
  clear hv ha
  go_enter Tryd.func34, Tryd.ntmps34
  obtain ⟨w1, hrun0, hown, hgrow⟩ := run_make_full (P := Tryd.prog) w w.heap.size 22 5 i0 (.int .u8 0) 1 Tryd.underlying22 hi hz0 hz1 .i64 .i64 4 (by rw [hz2]; omega) (by unfold maxLen; omega) (Nat.le_refl _)
  have hrun : (Instr.makeSlice 22 (.int .i64 4) (.int .i64 4)).run Tryd.prog w = .ok (.slice (some ⟨w.heap.size, 0, none⟩) 4 4) w1 := hrun0
  have hb1 : Below w.heap.size w w1 := (Below.refl _ w).grown hgrow (Nat.le_refl _) (by simp)
  have HOWN := Lib.hid hown
  clear hrun0 hgrow hown
  go_wp2
  clear hrun
  go_loopw [8] (fun idx wr => BRel s w idx wr) (fun idx wr => 4 - (intOf idx).toNat)
  case atStart => exact ⟨0, by omega, rfl, HOWN.out.cells_eq ((toList_madeCells_one _ _).trans rfl), hb1⟩
  case round =>
    obtain ⟨j, hj, rfl, ho, hb⟩ := hrel
    have ha32 : a < 4294967296 := by rw [HA.out]; exact s.isLt
    have HO := Lib.hid ho
    have hfz : wr.frozen? ⟨w.heap.size, j, none⟩ = false := ho.frozenAt j
    by_cases hlt : j < 4
    · obtain ⟨ho2, hg2⟩ := ho.stored j (bv (nth s j))
      have ho3 := ho2.cells_eq (lbrow_set s j hlt)
      have hb2 := hb.grown hg2 (by have := hb.size; omega) (by intro g hg; injection hg with hg; omega)
      rw [nth_val, ← HA.out] at ho3 hb2
      obtain ⟨old, hold⟩ : ∃ old, ((lbrow s j).map bv)[j]? = some old := ⟨_, List.getElem?_eq_getElem (by simp [lbrow]; omega)⟩
      have hcell : wr.cell? ⟨w.heap.size, j, none⟩ = some old := (ho.cellAt j (by omega)).trans hold
      have HO3 := Lib.hid ho3
      have HB2 := Lib.hid hb2
      clear ho ho2 hg2 ho3 hb2 hold
      obtain rfl | hlt : j = 0 ∨ 0 < j := by omega
      · have k1 : IntKind.u8.wrap ((a : Int)) = ((a / 2 ^ (8 * 0) % 256 : Nat) : Int) := by rw [IntKind.wrap_u8']; omega
        obtain ⟨b, hbb⟩ : ∃ b, b = a / 2 ^ (8 * 0) % 256 := ⟨_, rfl⟩
        rw [← hbb] at k1 HO3 HB2
        clear hbb ha32
        go_wp2
        exact ⟨⟨1, by omega, rfl, HO3.out, HB2.out⟩, by simp [intOf]⟩
      obtain rfl | hlt : j = 1 ∨ 1 < j := by omega
      · have k1 : IntKind.u8.wrap ((a : Int) / 256) = ((a / 2 ^ (8 * 1) % 256 : Nat) : Int) := by rw [IntKind.wrap_u8']; omega
        obtain ⟨b, hbb⟩ : ∃ b, b = a / 2 ^ (8 * 1) % 256 := ⟨_, rfl⟩
        rw [← hbb] at k1 HO3 HB2
        clear hbb ha32
        go_wp2
        exact ⟨⟨2, by omega, rfl, HO3.out, HB2.out⟩, by simp [intOf]⟩
      obtain rfl | hlt : j = 2 ∨ 2 < j := by omega
      · have k1 : IntKind.u8.wrap ((a : Int) / 65536) = ((a / 2 ^ (8 * 2) % 256 : Nat) : Int) := by rw [IntKind.wrap_u8']; omega
        obtain ⟨b, hbb⟩ : ∃ b, b = a / 2 ^ (8 * 2) % 256 := ⟨_, rfl⟩
        rw [← hbb] at k1 HO3 HB2
        clear hbb ha32
        go_wp2
        exact ⟨⟨3, by omega, rfl, HO3.out, HB2.out⟩, by simp [intOf]⟩
      obtain rfl : j = 3 := by omega
      · have k1 : IntKind.u8.wrap ((a : Int) / 16777216) = ((a / 2 ^ (8 * 3) % 256 : Nat) : Int) := by rw [IntKind.wrap_u8']; omega
        obtain ⟨b, hbb⟩ : ∃ b, b = a / 2 ^ (8 * 3) % 256 := ⟨_, rfl⟩
        rw [← hbb] at k1 HO3 HB2
        clear hbb ha32
        go_wp2
        exact ⟨⟨4, by omega, rfl, HO3.out, HB2.out⟩, by simp [intOf]⟩
    · obtain rfl : j = 4 := by omega
      clear hfz ho
      go_wp2
      go_ret
      exact ⟨_, rfl, HO.out, hb⟩

theorem bytes_own (s : W32) (w : World) : Calls Tryd.prog 34 #[wv s] w fun e w' => ∃ A c, e = .returned (.slice A 4 c) ∧ 4 ≤ c ∧ Reads w' w'.heap.size 1 A 4 ((lb s).map bv) ∧ Below w.heap.size w w' := by
  refine (bytes_any s w).mono ?_
  rintro e w' ⟨v, rfl, ho, hb⟩
  obtain ⟨A, c, rfl, hc, hr⟩ := own_reads ho
  exact ⟨A, c, rfl, hc, hr, hb⟩

set_option maxRecDepth 100000 in
set_option maxHeartbeats 400000 in
theorem read_bad (A : Option Addr) (n c : Nat) (at_ : Int) (hn : n ≤ 1073741824) (h : at_ < 0 ∨ (n : Int) - 4 < at_) (w : World) :
    Calls Tryd.prog 26 #[.slice A n c, .int .i64 at_] w fun e w' => e = .returned (.tuple #[.int .u32 0, .bool false]) ∧ w = w' := by
  by_cases h0 : at_ < 0
  · clear h
    go_enter Tryd.func26, Tryd.ntmps26
    go_wp2
    go_ret2
    exact ⟨rfl, rfl⟩
  · have h1 : (n : Int) - 4 < at_ := by omega
    clear h
    go_enter Tryd.func26, Tryd.ntmps26
    go_wp2
    go_ret2
    exact ⟨rfl, rfl⟩

def RRel (q : List UInt8) (w : World) (v idx : Value) (wr : World) : Prop := ∃ j : Nat, j ≤ 4 ∧ idx = .int .i64 (j : Int) ∧ v = wv (le4 (q.take j)) ∧ w = wr

set_option maxRecDepth 100000 in
set_option maxHeartbeats 400000 in
theorem read_ok (A : Option Addr) (n c k : Nat) (bs : List UInt8) (hn : n ≤ 1073741824) (hc : n ≤ c) (hk : k + 4 ≤ n) (w : World) (hr : Reads w w.heap.size 1 A n (bs.map bv)) :
    Calls Tryd.prog 26 #[.slice A n c, .int .i64 (k : Int)] w fun e w' => e = .returned (.tuple #[wv (le4 ((bs.drop k).take 4)), .bool true]) ∧ w = w' := by
  have hne : ¬ c = k := by omega
  have hrc := (hr.cut (cap := c) (k := k) (by omega) hc)
  rw [if_neg hne, Nat.mul_one, ← List.map_drop] at hrc
  have hr4 := hrc.take (k := 4) (by omega)
  rw [← List.map_take] at hr4
  obtain ⟨q, hq⟩ : ∃ q, q = (bs.drop k).take 4 := ⟨_, rfl⟩
  rw [← hq] at hr4 ⊢
  have hql : q.length = 4 := by have := hr4.1; simpa using this
  obtain ⟨ad, rfl⟩ : ∃ ad, A = some ad := by
    obtain ⟨ad, h, _⟩ := hr.2 (by omega)
    exact ⟨ad, h⟩
  have HR4 := Lib.hid hr4
  have HQL := Lib.hid hql
  clear hr4 hql hrc hr hq
  go_enter Tryd.func26, Tryd.ntmps26
  go_wp2
  go_loopw [6, 24] (fun v idx wr => RRel q w v idx wr) (fun _ idx wr => 4 - (intOf idx).toNat)
  case atStart => exact ⟨0, by omega, rfl, rfl, rfl⟩
  case round =>
    obtain ⟨j, hj, rfl, rfl, rfl⟩ := hrel
    by_cases hlt : j < 4
    · obtain ⟨ad1, u, hA, _, hx, hcell⟩ := HR4.out.at_ hlt
      obtain ⟨x, rfl, hxj⟩ := bs_at hx
      obtain rfl : ad1 = ad.add k := by injection hA with hA; exact hA.symm
      have e1 : q.take (j + 1) = q.take j ++ [x] := by rw [List.take_add_one, hxj]; rfl
      have hl : (q.take j).length = j := by rw [List.length_take, HQL.out]; omega
      have hor := le4_or x (q.take j) (by omega)
      rw [hl, ← e1] at hor
      obtain ⟨a, ha⟩ : ∃ a, a = (le4 (q.take j)).toNat := ⟨_, rfl⟩
      obtain ⟨b, hb⟩ : ∃ b, b = x.toNat := ⟨_, rfl⟩
      obtain ⟨r, hr⟩ : ∃ r, r = (le4 (q.take (j + 1))).toNat := ⟨_, rfl⟩
      have hb256 : b < 256 := by rw [hb]; exact x.toNat_lt
      have hv : wv (le4 (q.take j)) = .int .u32 (a : Int) := by rw [wv, ha]
      have hv2 : .int .u32 (r : Int) = wv (le4 (q.take (j + 1))) := by rw [wv, hr]
      rw [hv]
      rw [← ha, ← hb, ← hr] at hor
      rw [← hb] at hcell
      have HV2 := Lib.hid hv2
      have k0 : IntKind.u32.wrap (b : Int) = (b : Int) := by rw [IntKind.wrap_u32']; omega
      clear hv hv2 ha hb hr hx hA hxj e1 hl
      obtain rfl | hlt : j = 0 ∨ 0 < j := by omega
      · obtain ⟨z, hz⟩ : ∃ z, z = b * 2 ^ (8 * 0) := ⟨_, rfl⟩
        have k1 : (b : Int) = (z : Int) := by omega
        have hcell2 : w.cell? (ad.add k) = some (.int .u8 (b : Int)) := hcell
        rw [← hz] at hor
        clear hz hcell
        go_wp2
        exact ⟨⟨1, by omega, rfl, HV2.out, rfl⟩, by simp [intOf]⟩
      obtain rfl | hlt : j = 1 ∨ 1 < j := by omega
      · obtain ⟨z, hz⟩ : ∃ z, z = b * 2 ^ (8 * 1) := ⟨_, rfl⟩
        have k1 : IntKind.u32.wrap ((b : Int) * 256) = (z : Int) := by rw [IntKind.wrap_u32']; omega
        have hcell2 : w.cell? ⟨(ad.add k).block, (ad.add k).off + 1, none⟩ = some (.int .u8 (b : Int)) := hcell
        rw [← hz] at hor
        clear hz hcell
        go_wp2
        exact ⟨⟨2, by omega, rfl, HV2.out, rfl⟩, by simp [intOf]⟩
      obtain rfl | hlt : j = 2 ∨ 2 < j := by omega
      · obtain ⟨z, hz⟩ : ∃ z, z = b * 2 ^ (8 * 2) := ⟨_, rfl⟩
        have k1 : IntKind.u32.wrap ((b : Int) * 65536) = (z : Int) := by rw [IntKind.wrap_u32']; omega
        have hcell2 : w.cell? ⟨(ad.add k).block, (ad.add k).off + 2, none⟩ = some (.int .u8 (b : Int)) := hcell
        rw [← hz] at hor
        clear hz hcell
        go_wp2
        exact ⟨⟨3, by omega, rfl, HV2.out, rfl⟩, by simp [intOf]⟩
      obtain rfl : j = 3 := by omega
      · obtain ⟨z, hz⟩ : ∃ z, z = b * 2 ^ (8 * 3) := ⟨_, rfl⟩
        have k1 : IntKind.u32.wrap ((b : Int) * 16777216) = (z : Int) := by rw [IntKind.wrap_u32']; omega
        have hcell2 : w.cell? ⟨(ad.add k).block, (ad.add k).off + 3, none⟩ = some (.int .u8 (b : Int)) := hcell
        rw [← hz] at hor
        clear hz hcell
        go_wp2
        exact ⟨⟨4, by omega, rfl, HV2.out, rfl⟩, by simp [intOf]⟩
    · obtain rfl : j = 4 := by omega
      have hall : q.take 4 = q := List.take_of_length_le (by rw [HQL.out]; omega)
      rw [hall]
      generalize hv : wv (le4 q) = v
      have HV := Lib.hid hv
      clear hall hv
      go_wp2
      go_ret2
      exact ⟨by rw [HV.out]; rfl, rfl⟩

end Go.Proofs.YtoanmbhnhofoiaaDoor
