/- The walk of CrcLine: it returns true at any bytes and any two numbers. -/
import Derived.Test.YtbbkbpclhohglaaDoorCg
import Derived.Test.YtbbkbpclhohglaaDoorK2
import Derived.Deep.AppendLies
namespace Go.Proofs.YtbbkbpclhohglaaDoor
open Go.RowKit

/-- Two values that lie in unlike blocks. -/
def Apart (u v : Value) : Prop := ∀ g, u.ownBlock = some g → v.ownBlock ≠ some g
theorem Apart.symm {u v : Value} (h : Apart u v) : Apart v u := fun g h1 h2 => h g h2 h1

section
variable {w w' : World} {base n m k cap g size : Nat} {e : TypeId} {vb vc : Value} {xs : List Value}
theorem own_lt (h : w.ownsRow base e size vc n xs) : ∀ g, vc.ownBlock = some g → g < w.heap.size := by
  intro g hg
  obtain ⟨_, ⟨rfl, _⟩ | ⟨g', cap, cur, rfl, _, hh, _⟩⟩ := h
  · simp [Value.ownBlock] at hg
  · have e : g' = g := by simpa [Value.ownBlock] using hg
    subst e
    rcases Nat.lt_or_ge g' w.heap.size with hlt | hge
    · exact hlt
    · rw [Array.getElem?_eq_none hge] at hh; cases hh
theorem apart_new (hc : w.ownsRow base e size vc n xs) (h : Apart vb vc) (hg : vb.ownBlock = some g ∨ g = w.heap.size) : Apart (.slice (some ⟨g, 0, none⟩) k cap) vc := by
  intro g' h1 h2
  have e : g = g' := by simpa [Value.ownBlock] using h1
  subst e
  rcases hg with hg | hg
  · exact h g hg h2
  · have := own_lt hc g h2
    omega
theorem own_kept (hc : w.ownsRow base e size vc n xs) (h : Apart vb vc) (hg : w.grownBy w' vb.ownBlock) : w'.ownsRow base e size vc n xs := by
  refine hc.kept hg ?_
  cases hv : vc.ownBlock with
  | none => exact .inl rfl
  | some g => exact .inr (fun h2 => h g h2.symm hv)
theorem apart_nil (v : Value) : Apart (.slice none 0 0) v := fun g h => by simp [Value.ownBlock] at h
end

/-- A slice of one element that was just laid: its cell. -/
theorem one_news (W : World) (z : Value) : ∀ (k : Nat) (u : Value), [z][k]? = some u → (W.alloc (.cells #[z] 5)).cell? ((⟨W.heap.size, 0, none⟩ : Addr).add k) = some u := by
  intro k u hu
  cases k with
  | zero =>
    have hu' : z = u := by simpa using hu
    subst hu'
    simp [Addr.add]
  | succ k => simp at hu

/-- The bytes that are laid of a number, round after round. -/
def pb (r x i : Nat) : UInt8 := UInt8.ofNat (x / 2 ^ (8 * (i % r)) % 256)
def rowb (r x j : Nat) : List UInt8 := (List.range j).map (pb r x)

theorem rowb_succ (r x j : Nat) : rowb r x (j + 1) = rowb r x j ++ [pb r x j] := by simp [rowb, List.range_succ]
theorem rowb_len (r x j : Nat) : (rowb r x j).length = j := by simp [rowb]

theorem xor3_snoc (a b c : UInt8) : ∀ l1 l2 l3 : List UInt8, l1.length = l2.length → l1.length = l3.length → xor3 (l1 ++ [a]) (l2 ++ [b]) (l3 ++ [c]) = xor3 l1 l2 l3 ++ [a ^^^ b ^^^ c]
  | [], [], [], _, _ => rfl
  | a' :: l1, b' :: l2, c' :: l3, h1, h2 => by
    simp only [List.cons_append, xor3]
    rw [xor3_snoc a b c l1 l2 l3 (by simpa using h1) (by simpa using h2)]
  | [], _ :: _, _, h1, _ => by simp at h1
  | [], [], _ :: _, _, h2 => by simp at h2
  | _ :: _, [], _, h1, _ => by simp at h1
  | _ :: _, _ :: _, [], _, h2 => by simp at h2
theorem xor3_len : ∀ l1 l2 l3 : List UInt8, l1.length = l2.length → l1.length = l3.length → (xor3 l1 l2 l3).length = l1.length
  | [], [], [], _, _ => rfl
  | a' :: l1, b' :: l2, c' :: l3, h1, h2 => by
    simp only [xor3, List.length_cons]
    rw [xor3_len l1 l2 l3 (by simpa using h1) (by simpa using h2)]
  | [], _ :: _, _, h1, _ => by simp at h1
  | [], [], _ :: _, _, h2 => by simp at h2
  | _ :: _, [], _, h1, _ => by simp at h1
  | _ :: _, _ :: _, [], _, h2 => by simp at h2

def TRel (w : World) (l1 : List UInt8) (x y : Nat) (vb vc vd idx : Value) (wr : World) : Prop :=
  ∃ j : Nat, j ≤ l1.length ∧ idx = .int .i64 (j : Int) ∧ wr.ownsRow w.heap.size 5 1 vb j ((rowb 8 x j).map bv) ∧ wr.ownsRow w.heap.size 5 1 vc j ((rowb 7 y j).map bv) ∧
    wr.ownsRow w.heap.size 5 1 vd j ((xor3 (l1.take j) (rowb 8 x j) (rowb 7 y j)).map bv) ∧ Apart vb vc ∧ Apart vb vd ∧ Apart vc vd ∧ Below w.heap.size w wr

set_option maxRecDepth 100000 in
set_option maxHeartbeats 400000 in
theorem line_long (A : Option Addr) (n c : Nat) (x y : Int) (h : 2000 < n) (w : World) (hl : Laid w) :
    Calls Tryd.prog 6 #[.slice A n c, .int .u64 x, .int .u64 y] w fun e w' => e = .returned (.bool true) ∧ Below w.heap.size w w' := by
  have HF := Lib.hid (fixed_any w hl)
  clear hl
  go_enter Tryd.func6, Tryd.ntmps6
  go_wp2_with (go_at_call 7; refine HF.out.mono ?_; rintro e w3 ⟨rfl, hb3⟩)
  go_ret
  exact ⟨rfl, hb3⟩

set_option maxRecDepth 100000 in
set_option maxHeartbeats 1000000 in
theorem line_short (A : Option Addr) (n c x y : Nat) (bs : List UInt8) (hn : n ≤ 2000) (hc : n ≤ c) (hx : x < 18446744073709551616) (hy : y < 18446744073709551616) (w : World) (hl : Laid w) (hr : Reads w w.heap.size 1 A n (bs.map bv)) :
    Calls Tryd.prog 6 #[.slice A n c, .int .u64 (x : Int), .int .u64 (y : Int)] w fun e w' => e = .returned (.bool true) ∧ Below w.heap.size w w' := by
  obtain ⟨i0, hi0, hz0, hz1, hz2⟩ := info_parts info5
  have hbn : bs.length = n := by have := hr.1; simpa using this
  have HX := Lib.hid hx
  have HY := Lib.hid hy
  have HL := Lib.hid hl
  have HBN := Lib.hid hbn
  clear hx hy hl hbn
  go_enter Tryd.func6, Tryd.ntmps6
  go_wp2_with fail
  go_loopw [7, 8, 9, 20] (fun vb vc vd idx wr => TRel w bs x y vb vc vd idx wr) (fun _ _ _ idx wr => n - (intOf idx).toNat)
  case atStart => exact ⟨0, by omega, rfl, World.ownsRow_nil _ _ _ _, World.ownsRow_nil _ _ _ _, World.ownsRow_nil _ _ _ _, apart_nil _, apart_nil _, apart_nil _, Below.refl _ _⟩
  case round =>
    obtain ⟨j, hj, rfl, hob, hoc, hod, hbc, hbd, hcd, hb⟩ := hrel
    rw [HBN.out] at hj
    have HOB := Lib.hid hob
    have HOC := Lib.hid hoc
    have HOD := Lib.hid hod
    have HBC := Lib.hid (And.intro hbc (And.intro hbd hcd))
    clear hob hoc hod hbc hbd hcd
    by_cases hlt : j < n
    · obtain ⟨ad, u, rfl, hadb, hx, hcell0⟩ := hr.at_ hlt
      obtain ⟨a, rfl, hxj⟩ := bs_at hx
      have hcell := (hb.cell (p := ad.add j) (by rw [block_of_add]; omega)).trans hcell0
      obtain ⟨an, han⟩ : ∃ an, an = a.toNat := ⟨_, rfl⟩
      rw [← han] at hcell
      have HAN := Lib.hid han
      have HXJ := Lib.hid hxj
      clear hx hxj han hcell0
      obtain ⟨p, hp⟩ : ∃ p, p = x / 2 ^ (8 * (j % 8)) % 256 := ⟨_, rfl⟩
      obtain ⟨q, hq⟩ : ∃ q, q = y / 2 ^ (8 * (j % 7)) % 256 := ⟨_, rfl⟩
      have k1 : (x : Int) / 2 ^ (8 * (j % 8)) % 256 = (p : Int) := by rw [hp]; simp
      have k2 : (y : Int) / 2 ^ (8 * (j % 7)) % 256 = (q : Int) := by rw [hq]; simp
      have hp256 : p < 256 := by rw [hp]; exact Nat.mod_lt _ (by omega)
      have hq256 : q < 256 := by rw [hq]; exact Nat.mod_lt _ (by omega)
      have vp : bv (pb 8 x j) = .int .u8 (p : Int) := by rw [pb, bv_ofNat (Nat.mod_lt _ (by omega)), ← hp]
      have vq : bv (pb 7 y j) = .int .u8 (q : Int) := by rw [pb, bv_ofNat (Nat.mod_lt _ (by omega)), ← hq]
      obtain ⟨r1, hr1⟩ : ∃ r1, r1 = an ^^^ p := ⟨_, rfl⟩
      obtain ⟨r2, hr2⟩ : ∃ r2, r2 = r1 ^^^ q := ⟨_, rfl⟩
      have an256 : an < 256 := by rw [HAN.out]; exact a.toNat_lt
      have r1256 : r1 < 256 := by rw [hr1]; exact Nat.xor_lt_two_pow (n := 8) an256 hp256
      have k3 : bits .xor .u8 (an : Int) (p : Int) = (r1 : Int) := by rw [u8_xor_nat an p an256 hp256, hr1]
      have k4 : bits .xor .u8 (r1 : Int) (q : Int) = (r2 : Int) := by rw [u8_xor_nat r1 q r1256 hq256, hr2]
      have vr : bv (a ^^^ pb 8 x j ^^^ pb 7 y j) = .int .u8 (r2 : Int) := by
        have e1 : (pb 8 x j).toNat = p := by simp [pb, hp]
        have e2 : (pb 7 y j).toNat = q := by simp [pb, hq]
        rw [bv, UInt8.toNat_xor, UInt8.toNat_xor, e1, e2, ← HAN.out, ← hr1, ← hr2]
      have HV := Lib.hid (And.intro vp (And.intro vq vr))
      have HN : Hid (∀ (W : World) (z : Value), ∀ (k : Nat) (u : Value), [z][k]? = some u → (W.alloc (.cells #[z] 5)).cell? ((⟨W.heap.size, 0, none⟩ : Addr).add k) = some u) := fun W z => one_news W z
      have HO1 : Hid (∀ (z : Int), ∀ u ∈ [Value.int .u8 z], u.oneCell' = true) := fun z u hu => by
        have : u = .int .u8 z := by simpa using hu
        rw [this]; rfl
      have hbs1 := hb.size
      clear hp hq vp vq vr hr1 hr2 hadb
      go_wp2_with (first
        | (at_builtin; refine wpList_append_lies _ rfl (.tmp 39) (.tmp 41) 24 rfl w.heap.size 5 i0 (.int .u8 0) 1 1 Tryd.underlying24 hi0 hz0 hz1 hz2 rfl (by decide) u7 j _ rfl (HOB.out.alloc _) ⟨wr.heap.size, 0, none⟩ 1 1 [.int .u8 (p : Int)] rfl rfl (HN.out _ _) (HO1.out _) (by decide) (by unfold maxLen; omega) (by omega) (by have := hbs1; simp; omega) _ rfl ?_; intro g1 cap1 w1 ho1 hg1 hat1 hlt1; have hoc1 := own_kept (HOC.out.alloc _) HBC.out.1 hg1; have hod1 := own_kept (HOD.out.alloc _) HBC.out.2.1 hg1; have a1c := apart_new (k := j + 1) (cap := cap1) (HOC.out.alloc _) HBC.out.1 hat1; have a1d := apart_new (k := j + 1) (cap := cap1) (HOD.out.alloc _) HBC.out.2.1 hat1; have hbw1 := (hb.alloc hb.size _).grown hg1 (by simp; omega) (own_block HOB.out); have hbs2 := hbw1.size; clear hg1 hat1 hlt1)
        | (at_builtin; refine wpList_append_lies _ rfl (.tmp 43) (.tmp 45) 24 rfl w.heap.size 5 i0 (.int .u8 0) 1 1 Tryd.underlying24 hi0 hz0 hz1 hz2 rfl (by decide) u8 j _ rfl (hoc1.alloc _) ⟨w1.heap.size, 0, none⟩ 1 1 [.int .u8 (q : Int)] rfl rfl (HN.out _ _) (HO1.out _) (by decide) (by unfold maxLen; omega) (by omega) (by have := hbs2; simp; omega) _ rfl ?_; intro g2 cap2 w2 ho2 hg2 hat2 hlt2; have ho12 := own_kept (ho1.alloc _) a1c.symm hg2; have hod2 := own_kept (hod1.alloc _) HBC.out.2.2 hg2; have a12 := (apart_new (k := j + 1) (cap := cap2) (ho1.alloc _) a1c.symm hat2).symm; have a2d := apart_new (k := j + 1) (cap := cap2) (hod1.alloc _) HBC.out.2.2 hat2; have hbw2 := (hbw1.alloc hbw1.size _).grown hg2 (by simp; omega) (own_block hoc1); have hbs3 := hbw2.size; clear ho1 hoc1 hod1 a1c; clear hg2 hat2 hlt2)
        | (at_builtin; refine wpList_append_lies _ rfl (.tmp 47) (.tmp 53) 24 rfl w.heap.size 5 i0 (.int .u8 0) 1 1 Tryd.underlying24 hi0 hz0 hz1 hz2 rfl (by decide) u9 j _ rfl (hod2.alloc _) ⟨w2.heap.size, 0, none⟩ 1 1 [.int .u8 (r2 : Int)] rfl rfl (HN.out _ _) (HO1.out _) (by decide) (by unfold maxLen; omega) (by omega) (by have := hbs3; simp; omega) _ rfl ?_; intro g3 cap3 w3 ho3 hg3 hat3 hlt3; have ho13 := own_kept (ho12.alloc _) a1d.symm hg3; have ho23 := own_kept (ho2.alloc _) a2d.symm hg3; have a13 := (apart_new (k := j + 1) (cap := cap3) (ho12.alloc _) a1d.symm hat3).symm; have a23 := (apart_new (k := j + 1) (cap := cap3) (ho2.alloc _) a2d.symm hat3).symm; have hbw3 := (hbw2.alloc hbw2.size _).grown hg3 (by simp; omega) (own_block hod2); clear ho12 ho2 hod2 a1d a2d; clear hg3 hat3 hlt3))
      refine ⟨⟨j + 1, by rw [HBN.out]; omega, by go_num, ho13.cells_eq ?_, ho23.cells_eq ?_, ho3.cells_eq ?_, a12, a13, a23, hbw3⟩, by simp [intOf]; omega⟩
      · rw [rowb_succ, List.map_append, List.map_cons, List.map_nil, HV.out.1]
      · rw [rowb_succ, List.map_append, List.map_cons, List.map_nil, HV.out.2.1]
      · have ht : (bs.take j).length = j := by rw [List.length_take, HBN.out]; omega
        have e : bs.take (j + 1) = bs.take j ++ [a] := by rw [List.take_add_one, HXJ.out]; rfl
        rw [rowb_succ, rowb_succ, e, xor3_snoc _ _ _ _ _ _ (by rw [rowb_len, ht]) (by rw [rowb_len, ht]), List.map_append, List.map_cons, List.map_nil, HV.out.2.2]
    · obtain rfl : j = n := by omega
      have hall : bs.take j = bs := List.take_of_length_le (by rw [HBN.out]; omega)
      rw [hall] at HOD
      obtain ⟨A1, c1, rfl, hc1, hr1⟩ := own_reads HOB.out
      obtain ⟨A2, c2, rfl, hc2, hr2⟩ := own_reads HOC.out
      obtain ⟨A3, c3, rfl, hc3, hr3⟩ := own_reads HOD.out
      have hrow : ∀ (v : Value) (l : List UInt8), PRow wr wr.heap.size v l → Hid (∀ (W X : World) (g : Nat), Below wr.heap.size wr W → g = W.heap.size → X = W.alloc (.cells #[v] 24) → Calls Tryd.prog 8 #[.slice (some ⟨g, 0, none⟩) 1 1] X fun e w' => e = .returned (wv (crc l)) ∧ X = w') := by
        intro v l hrw W X g hW hg hX
        subst hg
        subst hX
        exact sum_one W v l (HL.out.below (hb.trans (hW.mono hb.size))) ((hrw.below hW).more hW.size)
      have S0 := hrow (.slice A j c) bs ⟨_, _, _, rfl, hc, by omega, (hr.below hb).more hb.size⟩
      have S1 := hrow (.slice A1 j c1) (rowb 8 x j) ⟨_, _, _, rfl, hc1, by omega, hr1⟩
      have S2 := hrow (.slice A2 j c2) (rowb 7 y j) ⟨_, _, _, rfl, hc2, by omega, hr2⟩
      have S3 := hrow (.slice A3 j c3) (xor3 bs (rowb 8 x j) (rowb 7 y j)) ⟨_, _, _, rfl, hc3, by omega, hr3⟩
      have hline := crc_line bs (rowb 8 x j) (rowb 7 y j) (by rw [rowb_len, HBN.out]) (by rw [rowb_len, HBN.out])
      have HF : Hid (∀ W, Below w.heap.size w W → Calls Tryd.prog 7 #[] W fun e w' => e = .returned (.bool true) ∧ Below W.heap.size W w') := fun W h => fixed_any W (HL.out.below h)
      have k1 : bits .xor .u32 ((crc bs).toNat : Int) ((crc (rowb 8 x j)).toNat : Int) = ((crc bs ^^^ crc (rowb 8 x j)).toNat : Int) := by rw [u32_xor_nat _ _ (crc bs).isLt (crc (rowb 8 x j)).isLt, BitVec.toNat_xor]
      have k2 : bits .xor .u32 ((crc bs ^^^ crc (rowb 8 x j)).toNat : Int) ((crc (rowb 7 y j)).toNat : Int) = ((crc (xor3 bs (rowb 8 x j) (rowb 7 y j))).toNat : Int) := by rw [u32_xor_nat _ _ (crc bs ^^^ crc (rowb 8 x j)).isLt (crc (rowb 7 y j)).isLt, hline, BitVec.toNat_xor (crc bs ^^^ crc (rowb 8 x j))]
      unfold wv at S0 S1 S2 S3
      generalize (crc (xor3 bs (rowb 8 x j) (rowb 7 y j))).toNat = z3 at S3 k2
      generalize (crc bs ^^^ crc (rowb 8 x j)).toNat = z01 at k1 k2
      generalize (crc bs).toNat = z0 at S0 k1
      generalize (crc (rowb 8 x j)).toNat = z1 at S1 k1
      generalize (crc (rowb 7 y j)).toNat = z2 at S2 k2
      clear hline hrow hr1 hr2 hr3 hc1 hc2 hc3 HOB HOC HOD HBC hall hr
      go_wp2_with fail
      refine (HF.out _ hb).mono ?_
      rintro e w3 ⟨rfl, hb3⟩
      go_wp2_with fail
      refine (S3.out w3 _ _ hb3 rfl rfl).mono ?_
      rintro e w' ⟨rfl, rfl⟩
      have hb4 := hb3.alloc hb3.size (.cells #[.slice A3 j c3] 24)
      go_wp2_with fail
      refine (S0.out (w3.alloc (.cells #[.slice A3 j c3] 24)) _ _ hb4 (by simp) rfl).mono ?_
      rintro e w' ⟨rfl, rfl⟩
      have hb5 := hb4.alloc hb4.size (.cells #[.slice A j c] 24)
      go_wp2_with fail
      refine (S1.out ((w3.alloc (.cells #[.slice A3 j c3] 24)).alloc (.cells #[.slice A j c] 24)) _ _ hb5 (by simp) rfl).mono ?_
      rintro e w' ⟨rfl, rfl⟩
      have hb6 := hb5.alloc hb5.size (.cells #[.slice A1 j c1] 24)
      go_wp2_with fail
      refine (S2.out (((w3.alloc (.cells #[.slice A3 j c3] 24)).alloc (.cells #[.slice A j c] 24)).alloc (.cells #[.slice A1 j c1] 24)) _ _ hb6 (by simp) rfl).mono ?_
      rintro e w' ⟨rfl, rfl⟩
      have hb7 := hb6.alloc hb6.size (.cells #[.slice A2 j c2] 24)
      go_wp2_with fail
      go_ret
      exact ⟨rfl, hb.trans (hb7.mono hb.size)⟩

/-- **CrcLine answers true, at any bytes and any two numbers.** -/
theorem line_all (A : Option Addr) (n c x y : Nat) (bs : List UInt8) (hc : n ≤ c) (hx : x < 18446744073709551616) (hy : y < 18446744073709551616) (w : World) (hl : Laid w) (hr : Reads w w.heap.size 1 A n (bs.map bv)) :
    Calls Tryd.prog 6 #[.slice A n c, .int .u64 (x : Int), .int .u64 (y : Int)] w fun e w' => e = .returned (.bool true) ∧ Below w.heap.size w w' := by
  by_cases h : 2000 < n
  · exact line_long A n c x y h w hl
  · exact line_short A n c x y bs (by omega) hc hx hy w hl hr
end Go.Proofs.YtbbkbpclhohglaaDoor
