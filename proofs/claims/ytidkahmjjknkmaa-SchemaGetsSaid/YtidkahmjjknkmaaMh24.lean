/- Texts of one proof, one behind the other. -/
import Derived.Test.YtidkahmjjknkmaaMh21

/- The document's May: its loops. -/
namespace Go.Proofs.Ytidkahmjjknkmaa
open Go.RowKit

set_option maxRecDepth 100000 in
set_option maxHeartbeats 2000000 in
theorem rmay_l4 (t : List UInt8) (u o : Int) (m : Int) (g : List UInt8) (A : Option Addr) (n c : Nat) (l : List Dp) (hn : n ≤ 1000) (hfit : Fits ⟨1, t, u, o, m, g⟩ l) (hq : isName t = true) (h16 : n ≤ 16) (hg : g ≠ []) (h64 : g.length ≤ 64) (w : World) (h : Reads w w.heap.size 3 A n (dps l)) :
    Calls Try.prog 24 #[.int .i64 3, rcv ⟨1, t, u, o, m, g⟩ A n c] w fun e w' => Tells (MayP 3 ⟨1, t, u, o, m, g⟩ l) e ∧ Below w.heap.size w w' := by
  have HL : Hid (l.length = n) := by have := h.1; rw [dps_len] at this; show _ = _; omega
  have H1 := Lib.hid h
  have H0 := Lib.hid (one_new w (.cells (rcells ⟨1, t, u, o, m, g⟩ A n c) 26))
  have HB0 := Lib.hid ((Below.refl w.heap.size w).alloc (Nat.le_refl _) (.cells (rcells ⟨1, t, u, o, m, g⟩ A n c) 26))
  have HS0 : Hid (w.heap.size < (w.alloc (.cells (rcells ⟨1, t, u, o, m, g⟩ A n c) 26)).heap.size) := by show w.heap.size < _; simp
  have hst := tx_size0 t
  have hsg := tx_size0 g
  obtain ⟨hft, hfg, hfd⟩ := hfit
  have HFD := Lib.hid hfd
  have HNAME := Lib.hid (rname_any t)
  have q0 := at_cell (i := 0) H0.out rfl
  have q1 := at_cell (i := 1) H0.out rfl
  have q2 := at_cell (i := 2) H0.out rfl
  have q3 := at_cell (i := 3) H0.out rfl
  have q4 := at_cell (i := 4) H0.out rfl
  have q5 := at_cell (i := 5) H0.out rfl
  have q6 := at_cell (i := 6) H0.out rfl
  unfold maxLen at hft hfg
  simp only at hft hfg
  clear h hfd
  unfold rcells at *
  unfold rcv rsv at *
  rw [hq] at HNAME
  have d16 : decide ((n : Int) > 16) = false := decide_eq_false (by omega)
  obtain ⟨x, hx⟩ : ∃ x, x = g.length := ⟨_, rfl⟩
  rw [← hx] at hsg hfg h64
  have d64 : decide ((x : Int) > 64) = false := decide_eq_false (by omega)
  have he := tx_empty g hg
  have HG64 : Hid (g.length ≤ 64) := by show _ ≤ _; omega
  clear hg hx
  have HIFF : Hid (MayP 3 ⟨1, t, u, o, m, g⟩ l ↔ DepsP 3 ⟨1, t, u, o, m, g⟩ l) := ⟨fun h => by rcases h.2.2.2 with h | h; exact h.2.2.2; exact absurd h.1 (by simp), fun h => ⟨by omega, by omega, hq, .inl ⟨rfl, .inr (by omega), .inr ⟨by omega, HG64.out⟩, h⟩⟩⟩
  have H16 : Hid (n ≤ 16) := h16
  go_enter Try.func24, Try.ntmps24
  go_wp2_with (go_at_call 53; refine (HNAME.out _).mono ?_; rintro e w2 ⟨rfl, rfl⟩)
  go_loopw [5] (fun idx wr => OmRel 3 w (.cells #[.int .i64 1, .string (tx t), .int .u64 u, .slice A n c, .int .u64 o, .int .u64 m, .string (tx g)] 26) t l idx wr) (fun idx wr => n - (intOf idx).toNat)
  case atStart => exact ⟨0, by omega, rfl, by simp, by simp, HB0.out, H0.out, HS0.out⟩
  case round =>
    obtain ⟨i, hi, rfl, hok, hnd, hb, hbx, hz⟩ := hrel
    obtain ⟨wo, hwo⟩ : ∃ x, x = wr := ⟨wr, rfl⟩
    subst hwo
    have HOK := Lib.hid hok
    have HND := Lib.hid hnd
    have HBR := Lib.hid hb
    have HBX := Lib.hid hbx
    have HZ := Lib.hid hz
    rw [HL.out] at hi
    have b1 := at_cell (i := 1) hbx rfl
    have b3 := at_cell (i := 3) hbx rfl
    by_cases hlt : i < n
    · obtain ⟨y, hy⟩ : ∃ y, l[i]? = some y := ⟨_, List.getElem?_eq_getElem (by rw [HL.out]; exact hlt)⟩
      obtain ⟨ad, rfl, _, hcx⟩ := (H1.out.below hb).2 (by omega)
      obtain ⟨x0, x1, x2⟩ := dps_at l i y hy
      have k0 := hcx _ _ x0
      have k1 := hcx _ _ x1
      have k2 := hcx _ _ x2
      rw [add_one] at k1
      rw [add_two] at k2
      have hnb := one_new wo (.cells #[.string (tx y.name), .int .u64 y.hash, .bool y.order] 55)
      have p0 := at_cell (i := 0) hnb rfl
      have p2 := at_cell (i := 2) hnb rfl
      have hbn := Lib.hid (hb.alloc (by omega) (.cells #[.string (tx y.name), .int .u64 y.hash, .bool y.order] 55))
      have hbxn := Lib.hid ((Below.heap_alloc wo (.cells #[.string (tx y.name), .int .u64 y.hash, .bool y.order] 55) w.heap.size hz).trans hbx)
      have hzn : Hid (w.heap.size < (wo.alloc (.cells #[.string (tx y.name), .int .u64 y.hash, .bool y.order] 55)).heap.size) := by show w.heap.size < _; simp; omega
      have HNB := Lib.hid hnb
      have HNBZ : Hid (wo.heap.size < (wo.alloc (.cells #[.string (tx y.name), .int .u64 y.hash, .bool y.order] 55)).heap.size) := by show _ < _; simp
      have c1 := (World.cell?_alloc_lt wo (.cells #[.string (tx y.name), .int .u64 y.hash, .bool y.order] 55) ⟨w.heap.size, 1, none⟩ hz).trans b1
      have hname := Lib.hid (rname_any y.name)
      have hi0 : (0 : Int) ≤ (i : Int) := by omega
      have hi1 : (i : Int) < (n : Int) := by omega
      have HNM : Hid ((names l)[i]? = some y.name) := by show _ = _; unfold names; rw [List.getElem?_map, hy]; rfl
      have HIN : Hid (DepP 3 y → ∀ d ∈ l.take (i + 1), DepP 3 d) := fun hp d hd => by
        rw [List.take_add_one, hy, List.mem_append] at hd
        rcases hd with hd | hd
        · exact HOK.out d hd
        · simp at hd; subst hd; exact hp
      have HOUT : Hid (¬ DepP 3 y → ¬ MayP 3 ⟨1, t, u, o, m, g⟩ l) := fun hp hd => hp ((HIFF.out.1 hd).2.1 y (List.mem_of_getElem? hy))
      have HDUP : Hid (y.name = t ∨ y.name ∈ (names l).take i → ¬ MayP 3 ⟨1, t, u, o, m, g⟩ l) := fun hp hd => by
        have h1 := nodup_take (HIFF.out.1 hd).2.2 (i + 1)
        rw [List.take_add_one, HNM.out] at h1
        have h2 := nodup_snoc.1 h1
        rcases hp with hp | hp
        · exact h2.2.1 hp
        · exact h2.2.2 hp
      obtain ⟨xn, xh, xo⟩ := y
      unfold rsv at k0 hname
      simp only at k0 k1 k2 p0 p2 hbn hbxn hzn HNB HNBZ c1 hname HNM HDUP
      clear hcx x0 x1 x2 hok hnd hb hbx hnb hy
      cases hqn : isName xn
      · have HNO := Lib.hid (HOUT.out (fun hp => by have := hp.1; simp only at this; rw [hqn] at this; cases this))
        rw [hqn] at hname
        go_wp2_with (go_at_call 53; refine (hname.out _).mono ?_; rintro e w2 ⟨rfl, rfl⟩)
        go_ret
        exact ⟨tells_false HNO.out, hbn.out⟩
      rw [hqn] at hname
      by_cases het : xn = t
      · subst het
        have HNO := Lib.hid (HDUP.out (.inl rfl))
        have hlk := tx_like xn
        go_wp2_with (go_at_call 53; refine (hname.out _).mono ?_; rintro e w2 ⟨rfl, rfl⟩)
        go_ret
        exact ⟨tells_false HNO.out, hbn.out⟩
      have hun := tx_unlike het
      have HET := Lib.hid het
      clear het
      have HGO := Lib.hid (HIN.out ⟨hqn, fun h => by omega⟩)
      cases xo
      · go_wp2_with (go_at_call 53; refine (hname.out _).mono ?_; rintro e w2 ⟨rfl, rfl⟩)
        go_loopw [7] (fun idx wr => ImRel w (.cells #[.int .i64 1, .string (tx t), .int .u64 u, .slice (some ad) n c, .int .u64 o, .int .u64 m, .string (tx g)] 26) (.cells #[.string (tx xn), .int .u64 xh, .bool false] 55) wo.heap.size i xn l idx wr) (fun idx wr => i - (intOf idx).toNat)
        case atStart => exact ⟨0, by omega, rfl, by simp, hbn.out, hbxn.out, hzn.out, HNB.out, HNBZ.out⟩
        case round =>
          obtain ⟨j, hj, rfl, hnm, hb2, hbx2, hz2, hnb2, hnz2⟩ := hrel
          have HNM2 := Lib.hid hnm
          have HB2 := Lib.hid hb2
          have HBX2 := Lib.hid hbx2
          have HNB2 := Lib.hid hnb2
          have HZ2 := Lib.hid hz2
          have HNZ2 := Lib.hid hnz2
          have e3 := at_cell (i := 3) hbx2 rfl
          have e0 := at_cell (i := 0) hnb2 rfl
          by_cases hjlt : j < i
          · obtain ⟨z, hzz⟩ : ∃ z, l[j]? = some z := ⟨_, List.getElem?_eq_getElem (by rw [HL.out]; omega)⟩
            obtain ⟨ad', had, _, hcz⟩ := (H1.out.below hb2).2 (by omega)
            obtain rfl : ad = ad' := by injection had
            have m0 := hcz _ _ (dps_at l j z hzz).1
            have HNZ : Hid ((names l)[j]? = some z.name) := by show _ = _; unfold names; rw [List.getElem?_map, hzz]; rfl
            obtain ⟨zn, zh, zo⟩ := z
            unfold rsv at m0
            simp only at m0 HNZ
            have hj0 : (0 : Int) ≤ (j : Int) := by omega
            have hj1 : (j : Int) < (n : Int) := by omega
            clear hcz hzz hnm hb2 hbx2 hnb2 had
            by_cases hzx : zn = xn
            · subst hzx
              have hlk := tx_like zn
              have HNO := Lib.hid (HDUP.out (.inr (List.mem_of_getElem? (show ((names l).take i)[j]? = some zn by rw [List.getElem?_take, if_pos hjlt]; exact HNZ.out))))
              go_wp2_with fail
              refine wp_region_held (S := fun v1 => v1.heap = wr.heap) (by kernel_rfl) ?_
              have hS : wr.drew.heap = wr.heap := rfl
              refine h_take 0 (.pointer (some ⟨w.heap.size, 3, none⟩)) rfl (by kernel_rfl) (by kernel_rfl) (by kernel_rfl) (fun _ _ _ h => h) (by kernel_rfl) hS (fun _ _ => by kernel_rfl) ?_
              refine h_take 1 (.slice (some ad) n c) rfl (by kernel_rfl) (by kernel_rfl) (by kernel_rfl) (fun _ _ _ h => h) (by kernel_rfl) hS (by intro v1 hv; have q := (at_heap hv _).trans e3; go_simp) ?_
              refine h_take 2 (.int .i64 (j : Int)) rfl (by kernel_rfl) (by kernel_rfl) (by kernel_rfl) (fun _ _ _ h => h) (by kernel_rfl) hS (fun _ _ => by kernel_rfl) ?_
              refine h_take 3 (.pointer (some (ad.add (j * 3)))) rfl (by kernel_rfl) (by kernel_rfl) (by kernel_rfl) (fun _ _ _ h => h) (by kernel_rfl) hS (by intro v1 hv; go_simp) ?_
              refine h_take 4 (.pointer (some (ad.add (j * 3)))) rfl (by kernel_rfl) (by kernel_rfl) (by kernel_rfl) (fun _ _ _ h => h) (by kernel_rfl) hS (by intro v1 hv; go_simp) ?_
              refine h_take 5 (.string (tx zn)) rfl (by kernel_rfl) (by kernel_rfl) (by kernel_rfl) (fun _ _ _ h => h) (by kernel_rfl) hS (by intro v1 hv; have q := (at_heap hv _).trans m0; go_simp) ?_
              refine h_take 6 (.pointer (some ⟨wo.heap.size, 0, none⟩)) rfl (by kernel_rfl) (by kernel_rfl) (by kernel_rfl) (fun _ _ _ h => h) (by kernel_rfl) hS (fun _ _ => by kernel_rfl) ?_
              refine h_take 7 (.string (tx zn)) rfl (by kernel_rfl) (by kernel_rfl) (by kernel_rfl) (fun _ _ _ h => h) (by kernel_rfl) hS (by intro v1 hv; have q := (at_heap hv _).trans e0; go_simp) ?_
              refine h_take 8 (.bool true) rfl (by kernel_rfl) (by kernel_rfl) (by kernel_rfl) (fun _ _ _ h => h) (by kernel_rfl) hS (by intro v1 hv; go_simp) ?_
              refine wpAnyH_done (by kernel_rfl) ?_ _
              go_simp
              go_wp2
              go_ret
              exact ⟨tells_false HNO.out, HB2.out.drew⟩
            · have hul := tx_unlike hzx
              have HN2 : Hid (xn ∉ (names l).take (j + 1)) := fun h => by
                rw [List.take_add_one, HNZ.out, List.mem_append] at h
                rcases h with h | h
                · exact HNM2.out h
                · simp at h; exact hzx h.symm
              clear hzx
              go_wp2_with fail
              refine wp_region_held (S := fun v1 => v1.heap = wr.heap) (by kernel_rfl) ?_
              have hS : wr.drew.heap = wr.heap := rfl
              refine h_take 0 (.pointer (some ⟨w.heap.size, 3, none⟩)) rfl (by kernel_rfl) (by kernel_rfl) (by kernel_rfl) (fun _ _ _ h => h) (by kernel_rfl) hS (fun _ _ => by kernel_rfl) ?_
              refine h_take 1 (.slice (some ad) n c) rfl (by kernel_rfl) (by kernel_rfl) (by kernel_rfl) (fun _ _ _ h => h) (by kernel_rfl) hS (by intro v1 hv; have q := (at_heap hv _).trans e3; go_simp) ?_
              refine h_take 2 (.int .i64 (j : Int)) rfl (by kernel_rfl) (by kernel_rfl) (by kernel_rfl) (fun _ _ _ h => h) (by kernel_rfl) hS (fun _ _ => by kernel_rfl) ?_
              refine h_take 3 (.pointer (some (ad.add (j * 3)))) rfl (by kernel_rfl) (by kernel_rfl) (by kernel_rfl) (fun _ _ _ h => h) (by kernel_rfl) hS (by intro v1 hv; go_simp) ?_
              refine h_take 4 (.pointer (some (ad.add (j * 3)))) rfl (by kernel_rfl) (by kernel_rfl) (by kernel_rfl) (fun _ _ _ h => h) (by kernel_rfl) hS (by intro v1 hv; go_simp) ?_
              refine h_take 5 (.string (tx zn)) rfl (by kernel_rfl) (by kernel_rfl) (by kernel_rfl) (fun _ _ _ h => h) (by kernel_rfl) hS (by intro v1 hv; have q := (at_heap hv _).trans m0; go_simp) ?_
              refine h_take 6 (.pointer (some ⟨wo.heap.size, 0, none⟩)) rfl (by kernel_rfl) (by kernel_rfl) (by kernel_rfl) (fun _ _ _ h => h) (by kernel_rfl) hS (fun _ _ => by kernel_rfl) ?_
              refine h_take 7 (.string (tx xn)) rfl (by kernel_rfl) (by kernel_rfl) (by kernel_rfl) (fun _ _ _ h => h) (by kernel_rfl) hS (by intro v1 hv; have q := (at_heap hv _).trans e0; go_simp) ?_
              refine h_take 8 (.bool false) rfl (by kernel_rfl) (by kernel_rfl) (by kernel_rfl) (fun _ _ _ h => h) (by kernel_rfl) hS (by intro v1 hv; go_simp) ?_
              refine wpAnyH_done (by kernel_rfl) ?_ _
              go_simp
              go_wp2
              exact ⟨⟨j + 1, by omega, by go_num, HN2.out, HB2.out.drew, HBX2.out, HZ2.out, HNB2.out, HNZ2.out⟩, by simp [intOf]; omega⟩
          · obtain rfl : j = i := by omega
            have HND2 : Hid ((t :: (names l).take (j + 1)).Nodup) := by
              show List.Nodup _
              rw [List.take_add_one, HNM.out]
              exact nodup_snoc.2 ⟨HND.out, HET.out, HNM2.out⟩
            clear hnm hb2 hbx2 hnb2
            go_wp2
            exact ⟨⟨j + 1, by rw [HL.out]; omega, by go_num, HGO.out, HND2.out, HB2.out, HBX2.out, HZ2.out⟩, by simp [intOf]; omega⟩
      · go_wp2_with (go_at_call 53; refine (hname.out _).mono ?_; rintro e w2 ⟨rfl, rfl⟩)
        go_loopw [7] (fun idx wr => ImRel w (.cells #[.int .i64 1, .string (tx t), .int .u64 u, .slice (some ad) n c, .int .u64 o, .int .u64 m, .string (tx g)] 26) (.cells #[.string (tx xn), .int .u64 xh, .bool true] 55) wo.heap.size i xn l idx wr) (fun idx wr => i - (intOf idx).toNat)
        case atStart => exact ⟨0, by omega, rfl, by simp, hbn.out, hbxn.out, hzn.out, HNB.out, HNBZ.out⟩
        case round =>
          obtain ⟨j, hj, rfl, hnm, hb2, hbx2, hz2, hnb2, hnz2⟩ := hrel
          have HNM2 := Lib.hid hnm
          have HB2 := Lib.hid hb2
          have HBX2 := Lib.hid hbx2
          have HNB2 := Lib.hid hnb2
          have HZ2 := Lib.hid hz2
          have HNZ2 := Lib.hid hnz2
          have e3 := at_cell (i := 3) hbx2 rfl
          have e0 := at_cell (i := 0) hnb2 rfl
          by_cases hjlt : j < i
          · obtain ⟨z, hzz⟩ : ∃ z, l[j]? = some z := ⟨_, List.getElem?_eq_getElem (by rw [HL.out]; omega)⟩
            obtain ⟨ad', had, _, hcz⟩ := (H1.out.below hb2).2 (by omega)
            obtain rfl : ad = ad' := by injection had
            have m0 := hcz _ _ (dps_at l j z hzz).1
            have HNZ : Hid ((names l)[j]? = some z.name) := by show _ = _; unfold names; rw [List.getElem?_map, hzz]; rfl
            obtain ⟨zn, zh, zo⟩ := z
            unfold rsv at m0
            simp only at m0 HNZ
            have hj0 : (0 : Int) ≤ (j : Int) := by omega
            have hj1 : (j : Int) < (n : Int) := by omega
            clear hcz hzz hnm hb2 hbx2 hnb2 had
            by_cases hzx : zn = xn
            · subst hzx
              have hlk := tx_like zn
              have HNO := Lib.hid (HDUP.out (.inr (List.mem_of_getElem? (show ((names l).take i)[j]? = some zn by rw [List.getElem?_take, if_pos hjlt]; exact HNZ.out))))
              go_wp2_with fail
              refine wp_region_held (S := fun v1 => v1.heap = wr.heap) (by kernel_rfl) ?_
              have hS : wr.drew.heap = wr.heap := rfl
              refine h_take 0 (.pointer (some ⟨w.heap.size, 3, none⟩)) rfl (by kernel_rfl) (by kernel_rfl) (by kernel_rfl) (fun _ _ _ h => h) (by kernel_rfl) hS (fun _ _ => by kernel_rfl) ?_
              refine h_take 1 (.slice (some ad) n c) rfl (by kernel_rfl) (by kernel_rfl) (by kernel_rfl) (fun _ _ _ h => h) (by kernel_rfl) hS (by intro v1 hv; have q := (at_heap hv _).trans e3; go_simp) ?_
              refine h_take 2 (.int .i64 (j : Int)) rfl (by kernel_rfl) (by kernel_rfl) (by kernel_rfl) (fun _ _ _ h => h) (by kernel_rfl) hS (fun _ _ => by kernel_rfl) ?_
              refine h_take 3 (.pointer (some (ad.add (j * 3)))) rfl (by kernel_rfl) (by kernel_rfl) (by kernel_rfl) (fun _ _ _ h => h) (by kernel_rfl) hS (by intro v1 hv; go_simp) ?_
              refine h_take 4 (.pointer (some (ad.add (j * 3)))) rfl (by kernel_rfl) (by kernel_rfl) (by kernel_rfl) (fun _ _ _ h => h) (by kernel_rfl) hS (by intro v1 hv; go_simp) ?_
              refine h_take 5 (.string (tx zn)) rfl (by kernel_rfl) (by kernel_rfl) (by kernel_rfl) (fun _ _ _ h => h) (by kernel_rfl) hS (by intro v1 hv; have q := (at_heap hv _).trans m0; go_simp) ?_
              refine h_take 6 (.pointer (some ⟨wo.heap.size, 0, none⟩)) rfl (by kernel_rfl) (by kernel_rfl) (by kernel_rfl) (fun _ _ _ h => h) (by kernel_rfl) hS (fun _ _ => by kernel_rfl) ?_
              refine h_take 7 (.string (tx zn)) rfl (by kernel_rfl) (by kernel_rfl) (by kernel_rfl) (fun _ _ _ h => h) (by kernel_rfl) hS (by intro v1 hv; have q := (at_heap hv _).trans e0; go_simp) ?_
              refine h_take 8 (.bool true) rfl (by kernel_rfl) (by kernel_rfl) (by kernel_rfl) (fun _ _ _ h => h) (by kernel_rfl) hS (by intro v1 hv; go_simp) ?_
              refine wpAnyH_done (by kernel_rfl) ?_ _
              go_simp
              go_wp2
              go_ret
              exact ⟨tells_false HNO.out, HB2.out.drew⟩
            · have hul := tx_unlike hzx
              have HN2 : Hid (xn ∉ (names l).take (j + 1)) := fun h => by
                rw [List.take_add_one, HNZ.out, List.mem_append] at h
                rcases h with h | h
                · exact HNM2.out h
                · simp at h; exact hzx h.symm
              clear hzx
              go_wp2_with fail
              refine wp_region_held (S := fun v1 => v1.heap = wr.heap) (by kernel_rfl) ?_
              have hS : wr.drew.heap = wr.heap := rfl
              refine h_take 0 (.pointer (some ⟨w.heap.size, 3, none⟩)) rfl (by kernel_rfl) (by kernel_rfl) (by kernel_rfl) (fun _ _ _ h => h) (by kernel_rfl) hS (fun _ _ => by kernel_rfl) ?_
              refine h_take 1 (.slice (some ad) n c) rfl (by kernel_rfl) (by kernel_rfl) (by kernel_rfl) (fun _ _ _ h => h) (by kernel_rfl) hS (by intro v1 hv; have q := (at_heap hv _).trans e3; go_simp) ?_
              refine h_take 2 (.int .i64 (j : Int)) rfl (by kernel_rfl) (by kernel_rfl) (by kernel_rfl) (fun _ _ _ h => h) (by kernel_rfl) hS (fun _ _ => by kernel_rfl) ?_
              refine h_take 3 (.pointer (some (ad.add (j * 3)))) rfl (by kernel_rfl) (by kernel_rfl) (by kernel_rfl) (fun _ _ _ h => h) (by kernel_rfl) hS (by intro v1 hv; go_simp) ?_
              refine h_take 4 (.pointer (some (ad.add (j * 3)))) rfl (by kernel_rfl) (by kernel_rfl) (by kernel_rfl) (fun _ _ _ h => h) (by kernel_rfl) hS (by intro v1 hv; go_simp) ?_
              refine h_take 5 (.string (tx zn)) rfl (by kernel_rfl) (by kernel_rfl) (by kernel_rfl) (fun _ _ _ h => h) (by kernel_rfl) hS (by intro v1 hv; have q := (at_heap hv _).trans m0; go_simp) ?_
              refine h_take 6 (.pointer (some ⟨wo.heap.size, 0, none⟩)) rfl (by kernel_rfl) (by kernel_rfl) (by kernel_rfl) (fun _ _ _ h => h) (by kernel_rfl) hS (fun _ _ => by kernel_rfl) ?_
              refine h_take 7 (.string (tx xn)) rfl (by kernel_rfl) (by kernel_rfl) (by kernel_rfl) (fun _ _ _ h => h) (by kernel_rfl) hS (by intro v1 hv; have q := (at_heap hv _).trans e0; go_simp) ?_
              refine h_take 8 (.bool false) rfl (by kernel_rfl) (by kernel_rfl) (by kernel_rfl) (fun _ _ _ h => h) (by kernel_rfl) hS (by intro v1 hv; go_simp) ?_
              refine wpAnyH_done (by kernel_rfl) ?_ _
              go_simp
              go_wp2
              exact ⟨⟨j + 1, by omega, by go_num, HN2.out, HB2.out.drew, HBX2.out, HZ2.out, HNB2.out, HNZ2.out⟩, by simp [intOf]; omega⟩
          · obtain rfl : j = i := by omega
            have HND2 : Hid ((t :: (names l).take (j + 1)).Nodup) := by
              show List.Nodup _
              rw [List.take_add_one, HNM.out]
              exact nodup_snoc.2 ⟨HND.out, HET.out, HNM2.out⟩
            clear hnm hb2 hbx2 hnb2
            go_wp2
            exact ⟨⟨j + 1, by rw [HL.out]; omega, by go_num, HGO.out, HND2.out, HB2.out, HBX2.out, HZ2.out⟩, by simp [intOf]; omega⟩
    · obtain rfl : i = n := by omega
      rw [List.take_of_length_le (by rw [HL.out]; omega)] at HOK
      rw [List.take_of_length_le (by unfold names; rw [List.length_map, HL.out]; omega)] at HND
      have HP : Hid (MayP 3 ⟨1, t, u, o, m, g⟩ l) := HIFF.out.2 ⟨by rw [HL.out]; exact H16.out, HOK.out, HND.out⟩
      clear hok hnd hb hbx
      go_wp2
      go_ret
      exact ⟨tells_true HP.out, HBR.out⟩

end Go.Proofs.Ytidkahmjjknkmaa
