/- dirty.otherDeps, dirty.otherHash. -/
import Derived.Test.YtbaokcigfgfoaaaZa
namespace Go.Proofs.Ytbaokcigfgfoaaa
open Go.RowKit

theorem names_step {l : List Dp} {ds : List (List UInt8)} {i : Nat} {e : Dp} {s : List UInt8} (h : (l.take i).map Dp.name = ds.take i) (he : l[i]? = some e) (hs : ds[i]? = some s) (hq : e.name = s) : (l.take (i + 1)).map Dp.name = ds.take (i + 1) := by
  rw [List.take_add_one, List.take_add_one, he, hs, List.map_append, h]
  simp [hq]
theorem names_no {l : List Dp} {ds : List (List UInt8)} {i : Nat} {e : Dp} {s : List UInt8} (he : l[i]? = some e) (hs : ds[i]? = some s) (hq : e.name ≠ s) : l.map Dp.name ≠ ds := fun h => by
  have h1 := congrArg (fun q : List (List UInt8) => q[i]?) h
  simp only [List.getElem?_map, he, hs, Option.map_some] at h1
  exact hq (Option.some.inj h1)
theorem tx_like2 {a b : List UInt8} (h : a = b) : ((tx a).toList == (tx b).toList) = true := by rw [h]; exact tx_like b

set_option maxRecDepth 100000 in
set_option maxHeartbeats 2000000 in
theorem od_any (x : Nw) (r : Rc) (A : Option Addr) (n c : Nat) (l : List Dp) (b : Bool) (H : Option Addr) (m d : Nat) (hn : n ≤ 1000000) (hxn : x.n ≤ 1000000) (w : World) (hd1 : Reads w w.heap.size 3 A n (dps l)) (hx1 : NIn w w.heap.size x) :
    Calls Try.prog 30 #[.agg (askc x r A n c b H m d)] w fun e w' => Tells (¬ (l.map Dp.name = x.d.deps ∧ m = x.n)) e ∧ Below w.heap.size w w' := by
  have HL : Hid (l.length = n) := by have := hd1.1; rw [dps_len] at this; show _ = _; omega
  have HXL : Hid (x.d.deps.length = x.n) := hx1.len
  have HD := Lib.hid hd1
  have HX := Lib.hid hx1
  obtain ⟨⟨nm, sc, ru, ds⟩, xA, xn, xc⟩ := x
  obtain ⟨k, t, u, o, tm, g⟩ := r
  unfold askc
  simp only at *
  have h0 := one_new w (.cells #[.string (tx nm), .bool sc, .int .u64 ru, .slice xA xn xc, .int .i64 k, .string (tx t), .int .u64 u, .slice A n c, .int .u64 o, .int .u64 tm, .string (tx g), .bool b, .slice H m d] 53)
  have H0 := Lib.hid h0
  have HB0 := Lib.hid ((Below.refl w.heap.size w).alloc (Nat.le_refl _) (.cells #[.string (tx nm), .bool sc, .int .u64 ru, .slice xA xn xc, .int .i64 k, .string (tx t), .int .u64 u, .slice A n c, .int .u64 o, .int .u64 tm, .string (tx g), .bool b, .slice H m d] 53))
  have HS0 : Hid (w.heap.size < (w.alloc (.cells #[.string (tx nm), .bool sc, .int .u64 ru, .slice xA xn xc, .int .i64 k, .string (tx t), .int .u64 u, .slice A n c, .int .u64 o, .int .u64 tm, .string (tx g), .bool b, .slice H m d] 53)).heap.size) := by show w.heap.size < _; simp
  have q3 := at_cell (i := 3) h0 rfl
  have q7 := at_cell (i := 7) h0 rfl
  have q12 := at_cell (i := 12) h0 rfl
  clear hd1 hx1 h0
  have HNL : Hid (n ≠ xn → l.map Dp.name ≠ ds) := fun h e => h (by have := congrArg List.length e; rw [List.length_map, HL.out, HXL.out] at this; exact this)
  by_cases h1 : n = xn
  · subst h1
    by_cases h2 : m = n
    · subst h2
      have d1 : ((m : Int) != (m : Int)) = false := by simp
      go_enter Try.func30, Try.ntmps30
      go_wp2
      go_loopw [28] (fun idx wr => ∃ i : Nat, i ≤ m ∧ idx = .int .i64 (i : Int) ∧ (l.take i).map Dp.name = ds.take i ∧ Below w.heap.size w wr ∧ wr.heap[w.heap.size]? = some (.cells #[.string (tx nm), .bool sc, .int .u64 ru, .slice xA m xc, .int .i64 k, .string (tx t), .int .u64 u, .slice A m c, .int .u64 o, .int .u64 tm, .string (tx g), .bool b, .slice H m d] 53 (0, 0)) ∧ w.heap.size < wr.heap.size) (fun idx _ => m - (intOf idx).toNat)
      case atStart => exact ⟨0, by omega, rfl, by simp, HB0.out, H0.out, HS0.out⟩
      case round =>
        obtain ⟨i, hi, rfl, hok, hb, hbx, hz⟩ := hrel
        have HOK := Lib.hid hok
        have HBR := Lib.hid hb
        have HBX := Lib.hid hbx
        by_cases hlt : i < m
        · obtain ⟨e, hx⟩ : ∃ e, l[i]? = some e := ⟨_, List.getElem?_eq_getElem (by rw [HL.out]; exact hlt)⟩
          obtain ⟨s, hs⟩ : ∃ s, ds[i]? = some s := ⟨_, List.getElem?_eq_getElem (by rw [HXL.out]; exact hlt)⟩
          obtain ⟨ax, sv, rfl, hxb, hsv, hsc⟩ := (Reads.below (show Reads w w.heap.size 1 xA m (ds.map tsv) from HX.out) hb).at_ hlt
          obtain rfl : sv = tsv s := by rw [List.getElem?_map, hs] at hsv; simpa using hsv.symm
          unfold tsv at hsc
          have HST := Lib.hid (fun hq => names_step HOK.out hx hs hq)
          have HNO := Lib.hid (fun hq => names_no hx hs hq)
          obtain ⟨ad, rfl, _, hcx⟩ := (HD.out.below hb).2 (by omega)
          obtain ⟨x0, x1, x2⟩ := dps_at l i e hx
          have k0 := hcx _ _ x0
          have k1 := hcx _ _ x1
          have k2 := hcx _ _ x2
          rw [add_one] at k1
          rw [add_two] at k2
          obtain ⟨en, eh, eo⟩ := e
          simp only at HST HNO
          unfold rsv at k0
          simp only at k0 k1 k2
          have hnb := one_new wr (.cells #[.string (tx en), .int .u64 eh, .bool eo] 60)
          have p0 := at_cell (i := 0) hnb rfl
          have p1 := at_cell (i := 1) hnb rfl
          have p2 := at_cell (i := 2) hnb rfl
          have HBN := Lib.hid (hb.alloc hb.size (.cells #[.string (tx en), .int .u64 eh, .bool eo] 60))
          have hbxn := (Below.heap_alloc wr (.cells #[.string (tx en), .int .u64 eh, .bool eo] 60) w.heap.size hz).trans hbx
          have HBXN := Lib.hid hbxn
          have HZN : Hid (w.heap.size < (wr.alloc (.cells #[.string (tx en), .int .u64 eh, .bool eo] 60)).heap.size) := by show w.heap.size < _; simp; omega
          have y3 := at_cell (i := 3) hbxn rfl
          have y12 := at_cell (i := 12) hbxn rfl
          have hi0 : (0 : Int) ≤ (i : Int) := by omega
          have hi1 : (i : Int) < (m : Int) := by omega
          have hsc2 := (World.cell?_alloc_lt wr (.cells #[.string (tx en), .int .u64 eh, .bool eo] 60) (ax.add i) (by rw [block_of_add]; have := hb.size; omega)).trans hsc
          clear hcx x0 x1 x2 hx hs hsv hok hb hbx hz hnb hbxn
          by_cases hq : en = s
          · have hun := tx_like2 hq
            have hun2 : ((tx en).toList != (tx s).toList) = false := by rw [bne, hun]; rfl
            have HS2 := Lib.hid (HST.out hq)
            clear hq
            go_wp2
            go_quiet (fail)
            go_wp2
            exact ⟨⟨i + 1, by omega, by go_num, HS2.out, HBN.out.trans (below_drewN _ _ _), HBXN.out, HZN.out⟩, by simp [intOf]; omega⟩
          · have hun := tx_unlike hq
            have hun2 : ((tx en).toList != (tx s).toList) = true := by rw [bne, hun]; rfl
            have HN2 : Hid (¬ (l.map Dp.name = ds ∧ m = m)) := fun h => HNO.out hq h.1
            clear hq
            go_wp2
            go_quiet (fail)
            go_wp2
            go_ret
            exact ⟨tells_true HN2.out, HBN.out.trans (below_drewN _ _ _)⟩
        · obtain rfl : i = m := by omega
          rw [List.take_of_length_le (by rw [HL.out]; omega), List.take_of_length_le (by rw [HXL.out]; omega)] at HOK
          clear hok hb hbx
          go_wp2
          go_ret
          exact ⟨tells_false (fun h => h ⟨HOK.out, by first | rfl | trivial⟩), HBR.out⟩
    · have d1 : ((n : Int) != (n : Int)) = false := by simp
      have d2 : ((m : Int) != (n : Int)) = true := by rw [bne_iff_ne]; omega
      have HN2 : Hid (¬ (l.map Dp.name = ds ∧ m = n)) := fun h => h2 h.2
      go_enter Try.func30, Try.ntmps30
      go_wp2
      go_ret
      exact ⟨tells_true HN2.out, HB0.out⟩
  · have d1 : ((n : Int) != (xn : Int)) = true := by rw [bne_iff_ne]; omega
    have HN2 : Hid (¬ (l.map Dp.name = ds ∧ m = xn)) := fun h => HNL.out h1 h.1
    go_enter Try.func30, Try.ntmps30
    go_wp2
    go_ret
    exact ⟨tells_true HN2.out, HB0.out⟩

/-- A dep that counts has another digest. -/
def OthH (l : List Dp) (hs : List Int) : Prop := ∃ (i : Nat) (e : Dp), l[i]? = some e ∧ e.order = false ∧ hs[i]? ≠ some e.hash
theorem oth_one {l : List Dp} {hs : List Int} {i : Nat} {e : Dp} {h : Int} (he : l[i]? = some e) (hh : hs[i]? = some h) (ho : e.order = false) (hne : e.hash ≠ h) : OthH l hs :=
  ⟨i, e, he, ho, fun h2 => hne (by rw [hh] at h2; exact (Option.some.inj h2).symm)⟩
def OkT (l : List Dp) (hs : List Int) (n : Nat) : Prop := ∀ (i : Nat) (e : Dp), i < n → l[i]? = some e → e.order = false → hs[i]? = some e.hash
theorem okt_step {l : List Dp} {hs : List Int} {i : Nat} {e : Dp} (h : OkT l hs i) (he : l[i]? = some e) (h2 : e.order = false → hs[i]? = some e.hash) : OkT l hs (i + 1) := fun j f hj hf ho => by
  rcases Nat.lt_or_ge j i with h3 | h3
  · exact h j f h3 hf ho
  · obtain rfl : j = i := by omega
    rw [he] at hf
    obtain rfl := Option.some.inj hf
    exact h2 ho
theorem okt_all {l : List Dp} {hs : List Int} (h : OkT l hs l.length) : ¬ OthH l hs := fun ⟨i, e, he, ho, hne⟩ => hne (h i e (List.getElem?_eq_some_iff.1 he).1 he ho)

set_option maxRecDepth 100000 in
set_option maxHeartbeats 2000000 in
theorem oh_any (x : Nw) (r : Rc) (A : Option Addr) (n c : Nat) (l : List Dp) (b : Bool) (H : Option Addr) (m d : Nat) (hs : List Int) (hn : n ≤ 1000000) (hmn : n ≤ m) (w : World) (hd1 : Reads w w.heap.size 3 A n (dps l)) (hx1 : NIn w w.heap.size x) (hh1 : Reads w w.heap.size 1 H m (hs.map (Value.int .u64))) :
    Calls Try.prog 31 #[.agg (askc x r A n c b H m d)] w fun e w' => Tells (OthH l hs) e ∧ Below w.heap.size w w' := by
  have HHL : Hid (hs.length = m) := by have := hh1.1; simp at this; exact this
  have HH := Lib.hid hh1
  have HL : Hid (l.length = n) := by have := hd1.1; rw [dps_len] at this; show _ = _; omega
  have HXL : Hid (x.d.deps.length = x.n) := hx1.len
  have HD := Lib.hid hd1
  have HX := Lib.hid hx1
  obtain ⟨⟨nm, sc, ru, ds⟩, xA, xn, xc⟩ := x
  obtain ⟨k, t, u, o, tm, g⟩ := r
  unfold askc
  simp only at *
  have h0 := one_new w (.cells #[.string (tx nm), .bool sc, .int .u64 ru, .slice xA xn xc, .int .i64 k, .string (tx t), .int .u64 u, .slice A n c, .int .u64 o, .int .u64 tm, .string (tx g), .bool b, .slice H m d] 53)
  have H0 := Lib.hid h0
  have HB0 := Lib.hid ((Below.refl w.heap.size w).alloc (Nat.le_refl _) (.cells #[.string (tx nm), .bool sc, .int .u64 ru, .slice xA xn xc, .int .i64 k, .string (tx t), .int .u64 u, .slice A n c, .int .u64 o, .int .u64 tm, .string (tx g), .bool b, .slice H m d] 53))
  have HS0 : Hid (w.heap.size < (w.alloc (.cells #[.string (tx nm), .bool sc, .int .u64 ru, .slice xA xn xc, .int .i64 k, .string (tx t), .int .u64 u, .slice A n c, .int .u64 o, .int .u64 tm, .string (tx g), .bool b, .slice H m d] 53)).heap.size) := by show w.heap.size < _; simp
  have q3 := at_cell (i := 3) h0 rfl
  have q7 := at_cell (i := 7) h0 rfl
  have q12 := at_cell (i := 12) h0 rfl
  clear hd1 hx1 h0 hh1
  go_enter Try.func31, Try.ntmps31
  go_wp2
  go_loopw [9] (fun idx wr => ∃ i : Nat, i ≤ n ∧ idx = .int .i64 (i : Int) ∧ OkT l hs i ∧ Below w.heap.size w wr ∧ wr.heap[w.heap.size]? = some (.cells #[.string (tx nm), .bool sc, .int .u64 ru, .slice xA xn xc, .int .i64 k, .string (tx t), .int .u64 u, .slice A n c, .int .u64 o, .int .u64 tm, .string (tx g), .bool b, .slice H m d] 53 (0, 0)) ∧ w.heap.size < wr.heap.size) (fun idx _ => n - (intOf idx).toNat)
  case atStart => exact ⟨0, by omega, rfl, fun i e h => absurd h (by omega), HB0.out, H0.out, HS0.out⟩
  case round =>
    obtain ⟨i, hi, rfl, hok, hb, hbx, hz⟩ := hrel
    have HOK := Lib.hid hok
    have HBR := Lib.hid hb
    have HBX := Lib.hid hbx
    by_cases hlt : i < n
    · obtain ⟨e, hx⟩ : ∃ e, l[i]? = some e := ⟨_, List.getElem?_eq_getElem (by rw [HL.out]; exact hlt)⟩
      obtain ⟨h, hh⟩ : ∃ h, hs[i]? = some h := ⟨_, List.getElem?_eq_getElem (by rw [HHL.out]; omega)⟩
      obtain ⟨ah, hv, rfl, hxb, hhv, hhc⟩ := (HH.out.below hb).at_ (k := i) (by omega)
      obtain rfl : hv = .int .u64 h := by rw [List.getElem?_map, hh] at hhv; simpa using hhv.symm
      have HST := Lib.hid (fun h2 => okt_step HOK.out hx h2)
      have HNO := Lib.hid (fun ho hne => oth_one hx hh ho hne)
      have HHI := Lib.hid hh
      obtain ⟨ad, rfl, _, hcx⟩ := (HD.out.below hb).2 (by omega)
      obtain ⟨x0, x1, x2⟩ := dps_at l i e hx
      have k0 := hcx _ _ x0
      have k1 := hcx _ _ x1
      have k2 := hcx _ _ x2
      rw [add_one] at k1
      rw [add_two] at k2
      obtain ⟨en, eh, eo⟩ := e
      simp only at HST HNO
      unfold rsv at k0
      simp only at k0 k1 k2
      have hnb := one_new wr (.cells #[.string (tx en), .int .u64 eh, .bool eo] 60)
      have p0 := at_cell (i := 0) hnb rfl
      have p1 := at_cell (i := 1) hnb rfl
      have p2 := at_cell (i := 2) hnb rfl
      have HBN := Lib.hid (hb.alloc hb.size (.cells #[.string (tx en), .int .u64 eh, .bool eo] 60))
      have hbxn := (Below.heap_alloc wr (.cells #[.string (tx en), .int .u64 eh, .bool eo] 60) w.heap.size hz).trans hbx
      have HBXN := Lib.hid hbxn
      have HZN : Hid (w.heap.size < (wr.alloc (.cells #[.string (tx en), .int .u64 eh, .bool eo] 60)).heap.size) := by show w.heap.size < _; simp; omega
      have y3 := at_cell (i := 3) hbxn rfl
      have y12 := at_cell (i := 12) hbxn rfl
      have hi0 : (0 : Int) ≤ (i : Int) := by omega
      have hi1 : (i : Int) < (n : Int) := by omega
      have hhc2 := (World.cell?_alloc_lt wr (.cells #[.string (tx en), .int .u64 eh, .bool eo] 60) (ah.add i) (by rw [block_of_add]; have := hb.size; omega)).trans hhc
      have hi2 : (i : Int) < (m : Int) := by omega
      clear hcx x0 x1 x2 hx hh hhv hok hb hbx hz hnb hbxn
      cases eo with
      | true =>
        have HS2 := Lib.hid (HST.out (fun h => by cases h))
        go_wp2
        go_quiet (fail)
        go_wp2
        exact ⟨⟨i + 1, by omega, by go_num, HS2.out, HBN.out.trans (below_drewN _ _ _), HBXN.out, HZN.out⟩, by simp [intOf]; omega⟩
      | false =>
        by_cases hq : eh = h
        · have hun2 : (eh != h) = false := by rw [hq]; simp
          have HS2 := Lib.hid (HST.out (fun _ => by rw [HHI.out, hq]))
          clear hq
          go_wp2
          go_quiet (fail)
          go_wp2
          exact ⟨⟨i + 1, by omega, by go_num, HS2.out, HBN.out.trans (below_drewN _ _ _), HBXN.out, HZN.out⟩, by simp [intOf]; omega⟩
        · have hun2 : (eh != h) = true := by rw [bne_iff_ne]; exact hq
          have HN2 := Lib.hid (HNO.out rfl hq)
          clear hq
          go_wp2
          go_quiet (fail)
          go_wp2
          go_ret
          exact ⟨tells_true HN2.out, HBN.out.trans (below_drewN _ _ _)⟩
    · obtain rfl : i = n := by omega
      have HN2 : Hid (¬ OthH l hs) := okt_all (by rw [HL.out]; exact HOK.out)
      clear hok hb hbx
      go_wp2
      go_ret
      exact ⟨tells_false HN2.out, HBR.out⟩

end Go.Proofs.Ytbaokcigfgfoaaa
