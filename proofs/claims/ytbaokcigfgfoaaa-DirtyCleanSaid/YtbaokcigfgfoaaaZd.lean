/- The document's Why. -/
import Derived.Test.YtbaokcigfgfoaaaZc
namespace Go.Proofs.Ytbaokcigfgfoaaa
open Go.RowKit

set_option maxRecDepth 100000 in
set_option maxHeartbeats 4000000 in
theorem rwhy_any (x : Nw) (B : Option Addr) (q c0 : Nat) (xs : List Rw) (H : Option Addr) (m d : Nat) (hs : List Int) (hq : q ≤ 100000) (hxn : x.n ≤ 1000000) (hf : ∀ y ∈ xs, y.n ≤ 1000000) (w : World) (hx : NIn w w.heap.size x) (hr : Recs w w.heap.size B q xs) (hh : Reads w w.heap.size 1 H m (hs.map (Value.int .u64))) :
    Calls Try.prog 10 #[x.val, .slice B q c0, .slice H m d] w fun e w' => ∃ z : Int, WhyN x.d xs hs z ∧ e = .returned (.int .i64 z) ∧ Below w.heap.size w w' := by
  have HHL : Hid (hs.length = m) := by have := hh.1; simp at this; exact this
  have HXL : Hid (x.d.deps.length = x.n) := hx.len
  have HNX : Hid (x.n ≤ 1000000) := hxn
  have HX0 : Hid (∀ W, Below w.heap.size w W → Reads W W.heap.size 1 x.A x.n (x.d.deps.map tsv)) := fun W hb => Reads.more (Reads.below hx hb) hb.size
  have HH0 : Hid (∀ W, Below w.heap.size w W → Reads W W.heap.size 1 H m (hs.map (Value.int .u64))) := fun W hb => (hh.below hb).more hb.size
  have HF : Hid (∀ (u : List UInt8) (W : World), Below w.heap.size w W → Calls Try.prog 21 #[.slice B q c0, rsv u] W fun e w' => FUni xs u W e w') := fun u W hb =>
    (rfind_any B q c0 xs u hq hf W ((hr.below hb).more hb.size)).mono fun e w' h => h.uni hf
  unfold rsv at HF
  obtain ⟨⟨nm, sc, ru, ds⟩, xA, xn, xc⟩ := x
  unfold Nw.val
  simp only at *
  have h0 := one_new w (.cells #[.string (tx nm), .bool sc, .int .u64 ru, .slice xA xn xc] 25)
  have HB0 := Lib.hid ((Below.refl w.heap.size w).alloc (Nat.le_refl _) (.cells #[.string (tx nm), .bool sc, .int .u64 ru, .slice xA xn xc] 25))
  have q0 := at_cell (i := 0) h0 rfl
  have q1 := at_cell (i := 1) h0 rfl
  have q2 := at_cell (i := 2) h0 rfl
  have q3 := at_cell (i := 3) h0 rfl
  have H0 := Lib.hid h0
  have HS0 : Hid (w.heap.size < (w.alloc (.cells #[.string (tx nm), .bool sc, .int .u64 ru, .slice xA xn xc] 25)).heap.size) := by show w.heap.size < _; simp
  clear hx hr hh hf h0 hxn
  cases sc with
  | true =>
    go_enter Try.func10, Try.ntmps10
    go_wp2
    go_ret
    exact ⟨0, .inl ⟨rfl, rfl⟩, rfl, HB0.out⟩
  | false =>
    suffices HMAIN : Calls Try.prog 10 #[.agg #[.string (tx nm), .bool false, .int .u64 ru, .slice xA xn xc], .slice B q c0, .slice H m d] w fun e w' => ∃ z : Int, WhyF ⟨nm, false, ru, ds⟩ xs hs z ∧ e = .returned (.int .i64 z) ∧ Below w.heap.size w w' from
      HMAIN.mono fun e w' ⟨z, h1, h2, h3⟩ => ⟨z, .inr ⟨rfl, h1⟩, h2, h3⟩
    go_enter Try.func10, Try.ntmps10
    go_wp2_with fail
    refine (HF.out nm _ HB0.out).mono ?_
    rintro e w1 ⟨rr, A, n, c, l, b, han, rfl, hn, hrd, hb1⟩
    have HAN := Lib.hid han
    have HLL : Hid (l.length = n) := by have := hrd.1; rw [dps_len] at this; show _ = _; omega
    have hn2 : n ≤ 1000000 := hn
    have hxn2 : xn ≤ 1000000 := HNX.out
    obtain ⟨k, t, u, o, tm, g⟩ := rr
    unfold rcv rsv
    have hN1 := (hb1.block w.heap.size HS0.out).trans H0.out
    have HB1 := Lib.hid (HB0.out.trans (hb1.mono HB0.out.size))
    have hR2 := one_new w1 (.cells #[.int .i64 k, .string (tx t), .int .u64 u, .slice A n c, .int .u64 o, .int .u64 tm, .string (tx g)] 36)
    have hN2 := (Below.heap_alloc w1 (.cells #[.int .i64 k, .string (tx t), .int .u64 u, .slice A n c, .int .u64 o, .int .u64 tm, .string (tx g)] 36) w.heap.size (Nat.lt_of_lt_of_le HS0.out hb1.size)).trans hN1
    have HB2 := Lib.hid (HB1.out.alloc HB1.out.size (.cells #[.int .i64 k, .string (tx t), .int .u64 u, .slice A n c, .int .u64 o, .int .u64 tm, .string (tx g)] 36))
    have HD2 := Lib.hid ((hrd.alloc (Nat.le_refl _) (.cells #[.int .i64 k, .string (tx t), .int .u64 u, .slice A n c, .int .u64 o, .int .u64 tm, .string (tx g)] 36)).more (show w1.heap.size ≤ (w1.alloc (.cells #[.int .i64 k, .string (tx t), .int .u64 u, .slice A n c, .int .u64 o, .int .u64 tm, .string (tx g)] 36)).heap.size by simp))
    have HX2 := Lib.hid (HX0.out _ HB2.out)
    have HH2 := Lib.hid (HH0.out _ HB2.out)
    have n0 := at_cell (i := 0) hN2 rfl
    have n1 := at_cell (i := 1) hN2 rfl
    have n2 := at_cell (i := 2) hN2 rfl
    have n3 := at_cell (i := 3) hN2 rfl
    have s0 := at_cell (i := 0) hR2 rfl
    have s1 := at_cell (i := 1) hR2 rfl
    have s2 := at_cell (i := 2) hR2 rfl
    have s3 := at_cell (i := 3) hR2 rfl
    have s4 := at_cell (i := 4) hR2 rfl
    have s5 := at_cell (i := 5) hR2 rfl
    have s6 := at_cell (i := 6) hR2 rfl
    clear han hn hrd hN1 hR2 hN2 hb1 q0 q1 q2 q3
    cases b with
    | false =>
      go_wp2
      go_ret
      exact ⟨1, ⟨⟨k, t, u, o, tm, g⟩, l, false, HAN.out, .inl ⟨rfl, rfl⟩⟩, rfl, HB2.out⟩
    | true =>
      by_cases hq : u = ru
      · have hne : (u != ru) = false := by rw [hq]; simp
        have HQR : Hid (u = ru) := hq
        clear hq
        by_cases h1 : n = xn
        · subst h1
          by_cases h2 : m = n
          · subst h2
            have d1 : ((m : Int) != (m : Int)) = false := by simp
            go_wp2
            go_loopw [9] (fun idx wr => ∃ i : Nat, i ≤ m ∧ idx = .int .i64 (i : Int) ∧ (l.take i).map Dp.name = ds.take i ∧ ∃ q, wr = (w1.alloc (.cells #[.int .i64 k, .string (tx t), .int .u64 u, .slice A m c, .int .u64 o, .int .u64 tm, .string (tx g)] 36)).drewN q) (fun idx _ => m - (intOf idx).toNat)
            case atStart => exact ⟨0, by omega, rfl, by simp, 0, rfl⟩
            case round =>
              obtain ⟨i, hi, rfl, hok, q0, rfl⟩ := hrel
              have HOK := Lib.hid hok
              clear hok
              by_cases hlt : i < m
              · obtain ⟨e, hx⟩ : ∃ e, l[i]? = some e := ⟨_, List.getElem?_eq_getElem (by rw [HLL.out]; exact hlt)⟩
                obtain ⟨s, hs⟩ : ∃ s, ds[i]? = some s := ⟨_, List.getElem?_eq_getElem (by rw [HXL.out]; exact hlt)⟩
                obtain ⟨ax, sv, rfl, hxb, hsv, hsc⟩ := (Reads.at_ HX2.out hlt)
                obtain rfl : sv = tsv s := by rw [List.getElem?_map, hs] at hsv; simpa using hsv.symm
                unfold tsv at hsc
                have HST := Lib.hid (fun hq => names_step HOK.out hx hs hq)
                have HNO := Lib.hid (fun hq => names_no hx hs hq)
                obtain ⟨ad, rfl, _, hcx⟩ := HD2.out.2 (by omega)
                obtain ⟨x0, x1, x2⟩ := dps_at l i e hx
                have k0 := hcx _ _ x0
                have k1 := hcx _ _ x1
                have k2 := hcx _ _ x2
                rw [add_one] at k1
                rw [add_two] at k2
                obtain ⟨en, eh, eo⟩ := e
                unfold rsv at k0
                simp only at k0 k1 k2
                simp only at HST HNO
                have hi0 : (0 : Int) ≤ (i : Int) := by omega
                have hi1 : (i : Int) < (m : Int) := by omega
                clear hcx x0 x1 x2 hx hs hsv
                by_cases hq : en = s
                · have hun := tx_like2 hq
                  have hun2 : ((tx en).toList != (tx s).toList) = false := by rw [bne, hun]; rfl
                  have HS2 := Lib.hid (HST.out hq)
                  clear hq
                  go_wp2
                  go_quiet (fail)
                  go_wp2
                  exact ⟨⟨i + 1, by omega, by go_num, HS2.out, _, by first | rfl | exact World.drewN_drewN ..⟩, by simp [intOf]; omega⟩
                · have hun := tx_unlike hq
                  have hun2 : ((tx en).toList != (tx s).toList) = true := by rw [bne, hun]; rfl
                  have HN2 := Lib.hid (HNO.out hq)
                  clear hq
                  go_wp2
                  go_quiet (fail)
                  go_wp2
                  go_ret
                  exact ⟨3, ⟨⟨k, t, u, o, tm, g⟩, l, true, HAN.out, .inr ⟨rfl, .inr (.inl ⟨HQR.out, fun h => HN2.out h.1, rfl⟩)⟩⟩, rfl, HB2.out.trans ((below_drewN _ _ _).trans (below_drewN _ _ _))⟩
              · rw [List.take_of_length_le (by rw [HLL.out]; omega), List.take_of_length_le (by rw [HXL.out]; omega)] at HOK
                have HD3 : Hid (l.map Dp.name = (⟨nm, false, ru, ds⟩ : Nd).deps ∧ hs.length = (⟨nm, false, ru, ds⟩ : Nd).deps.length) := ⟨HOK.out, by rw [HHL.out, HXL.out]⟩
                have hni : ¬ (i : Int) < (m : Int) := by omega
                go_wp2
                go_loopw [10] (fun idx wr => ∃ j : Nat, j ≤ m ∧ idx = .int .i64 (j : Int) ∧ OkT l hs j ∧ ∃ q, wr = (w1.alloc (.cells #[.int .i64 k, .string (tx t), .int .u64 u, .slice A m c, .int .u64 o, .int .u64 tm, .string (tx g)] 36)).drewN q) (fun idx _ => m - (intOf idx).toNat)
                case atStart => exact ⟨0, by omega, rfl, fun i e h => absurd h (by omega), q0, rfl⟩
                case round =>
                  obtain ⟨j, hj, rfl, hok, q1, rfl⟩ := hrel
                  have HOT := Lib.hid hok
                  clear hok
                  by_cases hlt : j < m
                  · obtain ⟨e, hx⟩ : ∃ e, l[j]? = some e := ⟨_, List.getElem?_eq_getElem (by rw [HLL.out]; exact hlt)⟩
                    obtain ⟨h, hh⟩ : ∃ h, hs[j]? = some h := ⟨_, List.getElem?_eq_getElem (by rw [HHL.out]; exact hlt)⟩
                    obtain ⟨ah, hv, rfl, hxb, hhv, hhc⟩ := HH2.out.at_ hlt
                    obtain rfl : hv = .int .u64 h := by rw [List.getElem?_map, hh] at hhv; simpa using hhv.symm
                    have HST := Lib.hid (fun h2 => okt_step HOT.out hx h2)
                    have HNO := Lib.hid (fun ho hne => oth_one hx hh ho hne)
                    have HHI := Lib.hid hh
                    obtain ⟨ad, rfl, _, hcx⟩ := HD2.out.2 (by omega)
                    obtain ⟨x0, x1, x2⟩ := dps_at l j e hx
                    have k0 := hcx _ _ x0
                    have k1 := hcx _ _ x1
                    have k2 := hcx _ _ x2
                    rw [add_one] at k1
                    rw [add_two] at k2
                    obtain ⟨en, eh, eo⟩ := e
                    unfold rsv at k0
                    simp only at k0 k1 k2
                    simp only at HST HNO
                    have hi0 : (0 : Int) ≤ (j : Int) := by omega
                    have hi1 : (j : Int) < (m : Int) := by omega
                    clear hcx x0 x1 x2 hx hh hhv
                    cases eo with
                    | true =>
                      have HS2 := Lib.hid (HST.out (fun h => by cases h))
                      go_wp2
                      go_quiet (fail)
                      go_wp2
                      exact ⟨⟨j + 1, by omega, by go_num, HS2.out, _, by first | rfl | exact World.drewN_drewN ..⟩, by simp [intOf]; omega⟩
                    | false =>
                      by_cases hq : eh = h
                      · have hun2 : (eh != h) = false := by rw [hq]; simp
                        have HS2 := Lib.hid (HST.out (fun _ => by rw [HHI.out, hq]))
                        clear hq
                        go_wp2
                        go_quiet (fail)
                        go_wp2
                        exact ⟨⟨j + 1, by omega, by go_num, HS2.out, _, by first | rfl | exact World.drewN_drewN ..⟩, by simp [intOf]; omega⟩
                      · have hun2 : (eh != h) = true := by rw [bne_iff_ne]; exact hq
                        have HN2 := Lib.hid (HNO.out rfl hq)
                        clear hq
                        go_wp2
                        go_quiet (fail)
                        go_wp2
                        go_ret
                        exact ⟨4, ⟨⟨k, t, u, o, tm, g⟩, l, true, HAN.out, .inr ⟨rfl, .inr (.inr (.inl ⟨HQR.out, HD3.out, HN2.out, rfl⟩))⟩⟩, rfl, HB2.out.trans ((below_drewN _ _ _).trans (below_drewN _ _ _))⟩
                  · obtain rfl : j = m := by omega
                    have HN2 : Hid (¬ OthH l hs) := okt_all (by rw [HLL.out]; exact HOT.out)
                    go_wp2
                    go_ret
                    exact ⟨0, ⟨⟨k, t, u, o, tm, g⟩, l, true, HAN.out, .inr ⟨rfl, .inr (.inr (.inr ⟨HQR.out, HD3.out, HN2.out, rfl⟩))⟩⟩, rfl, HB2.out.trans (below_drewN _ _ _)⟩
          · have d1 : ((n : Int) != (n : Int)) = false := by simp
            have d2 : ((m : Int) != (n : Int)) = true := by rw [bne_iff_ne]; omega
            have HNQ : Hid (¬ (l.map Dp.name = (⟨nm, false, ru, ds⟩ : Nd).deps ∧ hs.length = (⟨nm, false, ru, ds⟩ : Nd).deps.length)) := fun h => h2 (by have h3 := h.2; rw [HHL.out] at h3; rw [h3]; exact HXL.out)
            go_wp2
            go_ret
            exact ⟨3, ⟨⟨k, t, u, o, tm, g⟩, l, true, HAN.out, .inr ⟨rfl, .inr (.inl ⟨HQR.out, HNQ.out, rfl⟩)⟩⟩, rfl, HB2.out⟩
        · have d1 : ((n : Int) != (xn : Int)) = true := by rw [bne_iff_ne]; omega
          have HNQ : Hid (¬ (l.map Dp.name = (⟨nm, false, ru, ds⟩ : Nd).deps ∧ hs.length = (⟨nm, false, ru, ds⟩ : Nd).deps.length)) := fun h => h1 (by have h3 := congrArg List.length h.1; rw [List.length_map, HLL.out] at h3; rw [h3]; exact HXL.out)
          go_wp2
          go_ret
          exact ⟨3, ⟨⟨k, t, u, o, tm, g⟩, l, true, HAN.out, .inr ⟨rfl, .inr (.inl ⟨HQR.out, HNQ.out, rfl⟩)⟩⟩, rfl, HB2.out⟩
      · have hne : (u != ru) = true := by rw [bne_iff_ne]; exact hq
        have HQR : Hid (u ≠ ru) := hq
        clear hq
        go_wp2
        go_ret
        exact ⟨2, ⟨⟨k, t, u, o, tm, g⟩, l, true, HAN.out, .inr ⟨rfl, .inl ⟨HQR.out, rfl⟩⟩⟩, rfl, HB2.out⟩

end Go.Proofs.Ytbaokcigfgfoaaa
