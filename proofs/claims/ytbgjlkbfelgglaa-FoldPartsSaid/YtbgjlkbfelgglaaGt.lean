/- FoldParts. -/
import Derived.BigQuiet
import Derived.Deep.QuietTactic
import Derived.Test.YtbgjlkbfelgglaaGt0
namespace Go.Proofs.Ytbgjlkbfelgglaa
open Go.RowKit

set_option maxRecDepth 100000 in
set_option maxHeartbeats 4000000 in
theorem fparts_any (A : Option Addr) (n c : Nat) (xs : List Rw) (y : Nat) (hy : y < 256) (hn : n ≤ maxLen) (hnc : n ≤ c) (hc : c ≤ maxLen) (hac : A = none → c = 0) (hf : ∀ x ∈ xs, Fits x.r x.l ∧ x.n ≤ maxLen) (w : World) (h : Recs w w.heap.size A n xs) :
    Calls Try.prog 5 #[.slice A n c, .int .u8 (y : Int)] w fun e w' => e = .returned (.bool true) ∧ Below w.heap.size w w' := by
  have HFX : Hid (∀ W, Calls Try.prog 9 #[] W fun e w' => e = .returned (.bool true) ∧ Below W.heap.size W w') := ffixed_any
  have rd : ∀ W, Below w.heap.size w W → Recs W W.heap.size A n xs := fun W hb => (h.below hb).more hb.size
  have RD := Lib.hid rd
  have HG := Lib.hid (fun W hb => greats_any A n c xs hn hf W (rd W hb))
  have HB0 := Lib.hid (Below.refl w.heap.size w)
  by_cases sm : smalls xs
  · have SM := Lib.hid sm
    have hl : xs.length = n := h.len
    have h30 : n ≤ 30 := by rw [← hl]; exact sm.2
    have hk : Ok60 xs := fun x hx => ⟨(hf x hx).1.1, (sm.1 x hx).2.1⟩
    have HO := Lib.hid (fun W hb => fof60 A n c xs (by omega) hk W (rd W hb))
    have HK := Lib.hid hk
    have HN := Lib.hid h30
    have HL := Lib.hid hl
    have HNC := Lib.hid hnc
    have HAC := Lib.hid hac
    obtain ⟨k, hkm, hkn⟩ : ∃ k : Nat, min (y : Int) (n : Int) = (k : Int) ∧ k ≤ n := ⟨min y n, by omega, by omega⟩
    have HKN := Lib.hid hkn
    have hk1 : (k : Int) ≤ (c : Int) := by omega
    have hk2 : (k : Int) ≤ (n : Int) := by omega
    have hk0 : (0 : Int) ≤ (k : Int) := by omega
    have hc63 : (c : Int) ≤ 9223372036854775807 := by unfold maxLen at hc; omega
    have hn63 : (n : Int) ≤ 9223372036854775807 := by unfold maxLen at hc; omega
    obtain ⟨ig, hig, hz0, hz1, hz2⟩ := info_parts grinfo
    clear h hf rd sm hl h30 hk hkn hn hac
    go_enter Try.func5, Try.ntmps5
    go_wp2_with (go_at_call 7; refine (HG.out _ HB0.out).mono ?_; rintro e w2 ⟨he, hb2⟩; obtain rfl := he.no (fun h => h SM.out); have HB2 := Lib.hid (HB0.out.trans (hb2.mono HB0.out.size)); clear hb2)
    refine (HO.out _ HB2.out).mono ?_
    rintro e w3 ⟨A3, n3, c3, zs, rfl, hn3, hz3, hk3, hst3, hb3⟩
    have HN3 : Hid (n3 ≤ 30) := (by have := HN.out; show n3 ≤ 30; omega)
    have HZ3 := Lib.hid hz3
    have HK3 := Lib.hid hk3
    have HB3 := Lib.hid (HB2.out.trans (hb3.mono HB2.out.size))
    have HR3 : Hid (∀ W, Below w3.heap.size w3 W → Recs W W.heap.size A3 n3 zs) := (fun W hb => ((state_recs hst3).below hb).more hb.size)
    clear hn3 hz3 hk3 hst3 hb3
    go_wp2_with fail
    obtain ⟨M, hM⟩ : ∃ M : Act → World → Prop, M = (fun a v => ∃ v24 v25 v26 v27 v28 v29 v30 v31 v32 v33 v34 v35 v36 v37 v38 v39 v40 v41 v42 v43 v44 v45 v46 v47 v48 : Value, a = ({ tmps := #[.slice A n c, .int .u8 (y : Int), undef, undef, .bool false, .int .i64 (k : Int), .slice A3 n3 c3, undef, undef, undef, undef, undef, undef, undef, .slice A n c, .bool false, undef, .int .u8 (y : Int), .int .i64 (y : Int), .slice A n c, .int .i64 (n : Int), .int .i64 (k : Int), .slice A n c, .slice A3 n3 c3, v24, v25, v26, v27, v28, v29, v30, v31, v32, v33, v34, v35, v36, v37, v38, v39, v40, v41, v42, v43, v44, v45, v46, v47, v48, .bool false, undef, undef, undef, undef, undef, undef, undef, undef, undef, undef, undef, undef, undef, undef, undef, undef, undef, undef, undef, undef, undef, undef, undef, undef, undef, undef, undef, undef, undef, undef, undef, undef, undef, undef, undef, undef, undef, undef, undef, undef, undef, undef, undef, undef, undef, undef, undef, undef, undef, undef, undef, undef, undef, undef, undef, undef, undef, undef, undef, undef, undef, undef, undef, undef, undef, undef, undef, undef, undef], defers := [] } : Act) ∧ Below w3.heap.size w3 v) := ⟨_, rfl⟩
    have HM := Lib.hid hM
    clear hM
    refine wp_cut M ?_ ?_
    · intro a v hM
      rw [HM.out] at hM
      obtain ⟨v24, v25, v26, v27, v28, v29, v30, v31, v32, v33, v34, v35, v36, v37, v38, v39, v40, v41, v42, v43, v44, v45, v46, v47, v48, rfl, hb⟩ := hM
      have HBV := Lib.hid (HB3.out.trans (hb.mono HB3.out.size))
      have HRV := Lib.hid ((HR3.out v hb))
      clear hb HM
      have HF : Hid (∀ (u : List UInt8) (W : World), Recs W W.heap.size A3 n3 zs → Calls Try.prog 16 #[.slice A3 n3 c3, rsv u] W fun e w' => FUni zs u W e w') := fun u W hr =>
        (find_any A3 n3 c3 zs u (by have := HN3.out; omega) (fun x hx => (HK3.out.sizes hr x hx).2) W hr).mono fun e w' h => h.uni (fun x hx => (HK3.out.sizes hr x hx).2)
      unfold rsv at HF
      go_wp2
      go_loopw [52] (fun idx wr => ∃ i : Nat, i ≤ n ∧ idx = .int .i64 (i : Int) ∧ Below w.heap.size w wr ∧ Recs wr wr.heap.size A3 n3 zs) (fun idx _ => n - (intOf idx).toNat)
      case atStart => exact ⟨0, by omega, rfl, HBV.out, HRV.out⟩
      case round =>
        obtain ⟨i, hi, rfl, hb, hr⟩ := hrel
        have HB := Lib.hid hb
        have HR := Lib.hid hr
        by_cases hlt : i < n
        · obtain ⟨x, hx⟩ : ∃ x, xs[i]? = some x := ⟨_, List.getElem?_eq_getElem (by rw [HL.out]; exact hlt)⟩
          have HX := Lib.hid hx
          have hrec := RD.out wr hb
          have hm := List.mem_of_getElem? hx
          obtain ⟨ad, rfl, _, k0, k1, k2, k3, k4, k5, k6⟩ := recs_cells hrec.1 i x hx
          have HK1 : Hid (x.k = 1 ∨ x.k = 2 → (∀ y ∈ xs.drop (i + 1), y.t = x.t → y.k ≠ 1 ∧ y.k ≠ 2) → ∀ (rr : Rc) (ll : List Dp) (b : Bool), FAns zs x.t rr ll b → b = decide (x.k = 1) ∧ (x.k = 1 → rr = x.r ∧ ll = x.l)) := fun h1 h2 rr ll b h3 => parts_found HZ3.out hx h1 h2 h3
          have HXN := Lib.hid (HK.out.sizes hrec x hm).2
          have HXR := Lib.hid (fun W hb => ((RD.out W hb).2 x hm).1)
          obtain ⟨⟨kd, t, u, o, m0, g⟩, A4, n4, c4, l4⟩ := x
          unfold Rw.t Rw.k at HK1
          simp only at k0 k1 k2 k3 k4 k5 k6 HK1 HXN HXR
          have HBX := Lib.hid (one_new wr (.cells #[.int .i64 kd, .string (tx t), .int .u64 u, .slice A4 n4 c4, .int .u64 o, .int .u64 m0, .string (tx g)] 26))
          have q0 := at_cell (i := 0) HBX.out rfl
          have q1 := at_cell (i := 1) HBX.out rfl
          have q2 := at_cell (i := 2) HBX.out rfl
          have q3 := at_cell (i := 3) HBX.out rfl
          have q4 := at_cell (i := 4) HBX.out rfl
          have q5 := at_cell (i := 5) HBX.out rfl
          have q6 := at_cell (i := 6) HBX.out rfl
          have HB1 := Lib.hid (hb.alloc hb.size (.cells #[.int .i64 kd, .string (tx t), .int .u64 u, .slice A4 n4 c4, .int .u64 o, .int .u64 m0, .string (tx g)] 26))
          have HR1 : Hid (Recs (wr.alloc (.cells #[.int .i64 kd, .string (tx t), .int .u64 u, .slice A4 n4 c4, .int .u64 o, .int .u64 m0, .string (tx g)] 26)) (wr.alloc (.cells #[.int .i64 kd, .string (tx t), .int .u64 u, .slice A4 n4 c4, .int .u64 o, .int .u64 m0, .string (tx g)] 26)).heap.size A3 n3 zs) := ((hr.below ((Below.refl wr.heap.size wr).alloc (Nat.le_refl _) _)).more (by simp))
          have hn30 : n ≤ 30 := HN.out
          have hi0 : (0 : Int) ≤ (i : Int) := by omega
          have hi1 : (i : Int) < (n : Int) := by omega
          have hi2 : IntKind.i64.wrap ((i : Int) + 1) = ((i + 1 : Nat) : Int) := by rw [wrap_small (by omega) (by omega)]; omega
          have hi3 : ((i + 1 : Nat) : Int) ≤ (n : Int) := by omega
          have hi4 : ((i + 1 : Nat) : Int) ≤ (c : Int) := by have := HNC.out; omega
          have hi5 : (0 : Int) ≤ ((i + 1 : Nat) : Int) := by omega
          obtain ⟨P, q, m, hP, hq, hm2⟩ : ∃ (P : Option Addr) (q m : Nat), P = (if c = i + 1 then some ad else (some ad : Option Addr).map (·.add ((i + 1) * 7))) ∧ q = n - (i + 1) ∧ m = c - (i + 1) := ⟨_, _, _, rfl, rfl, rfl⟩
          have hsl : ∀ W : World, (Instr.sliceAt 22 (.slice (some ad) n c) (some (.int .i64 ((i : Int) + 1))) none none).run Try.prog W = .ok (.slice P q m) W := fun W => by
            rw [hP, hq, hm2]
            have e1 : ((i : Int) + 1).toNat = i + 1 := by omega
            have e2 : (0 : Int) ≤ (i : Int) + 1 := by omega
            have e3 : (i : Int) + 1 ≤ (n : Int) := by omega
            go_simp
          have HCUT : Hid (∀ W, Below w.heap.size w W → Recs W W.heap.size P q (xs.drop (i + 1))) := (fun W hb => by rw [hP, hq]; exact (RD.out W hb).cut (by omega) HNC.out)
          have HQ : Hid (q = n - (i + 1)) := hq
          have HQ30 : Hid (q ≤ 30) := (by have := HN.out; show q ≤ 30; omega)
          have hq30 : q ≤ 30 := HQ30.out
          have HLA : Hid (LP xs i t q → ∀ y ∈ xs.drop (i + 1), y.t = t → y.k ≠ 1 ∧ y.k ≠ 2) := fun h => lp_all HL.out (by rw [hq] at h; exact h)
          have HDL : Hid ((xs.drop (i + 1)).length = q) := (by show _ = _; rw [List.length_drop, HL.out, hq])
          clear hx hm hrec hb hr hP hq hm2
          obtain ⟨wo, hwo⟩ : ∃ x, x = wr := ⟨wr, rfl⟩
          subst hwo
          by_cases hk1 : kd = 1
          · subst hk1
            go_wp2
            go_loopw [70, 9] (fun idx v9 wq => ∃ (j : Nat) (b : Bool), j ≤ q ∧ idx = .int .i64 (j : Int) ∧ v9 = .bool b ∧ (b = true ↔ LP xs i t j) ∧ wq.heap[wo.heap.size]? = some (.cells #[.int .i64 1, .string (tx t), .int .u64 u, .slice A4 n4 c4, .int .u64 o, .int .u64 m0, .string (tx g)] 26 (0, 0)) ∧ Below w.heap.size w wq ∧ Recs wq wq.heap.size A3 n3 zs) (fun idx _ _ => q - (intOf idx).toNat)
            case atStart => exact ⟨0, true, by omega, rfl, rfl, by simp [lp_zero], HBX.out, HB1.out, HR1.out⟩
            case round =>
              obtain ⟨j, b, hj, rfl, rfl, hlp, hbx, hb, hr⟩ := hrel
              have HLP := Lib.hid hlp
              have HBX2 := Lib.hid hbx
              have HB2 := Lib.hid hb
              have HR2 := Lib.hid hr
              have p0 := at_cell (i := 0) hbx rfl
              have p1 := at_cell (i := 1) hbx rfl
              have p2 := at_cell (i := 2) hbx rfl
              have p3 := at_cell (i := 3) hbx rfl
              have p4 := at_cell (i := 4) hbx rfl
              have p5 := at_cell (i := 5) hbx rfl
              have p6 := at_cell (i := 6) hbx rfl
              by_cases hjq : j < q
              · obtain ⟨y1, hy1⟩ : ∃ y1, (xs.drop (i + 1))[j]? = some y1 := ⟨_, List.getElem?_eq_getElem (by rw [HDL.out]; exact hjq)⟩
                have HST := Lib.hid (lp_step (t := t) hy1)
                obtain ⟨adp, rfl, _, c0, c1, c2, c3, c4, c5, c6⟩ := recs_cells (HCUT.out wr hb).1 j y1 hy1
                unfold Rw.t Rw.k at HST
                obtain ⟨⟨ky, ty, uy, oy, my, gy⟩, Ay, ny, cy, ly⟩ := y1
                simp only at c0 c1 c2 c3 c4 c5 c6 HST
                have HBY := Lib.hid (one_new wr (.cells #[.int .i64 ky, .string (tx ty), .int .u64 uy, .slice Ay ny cy, .int .u64 oy, .int .u64 my, .string (tx gy)] 26))
                have s0 := at_cell (i := 0) HBY.out rfl
                have s1 := at_cell (i := 1) HBY.out rfl
                have HB3 := Lib.hid (hb.alloc hb.size (.cells #[.int .i64 ky, .string (tx ty), .int .u64 uy, .slice Ay ny cy, .int .u64 oy, .int .u64 my, .string (tx gy)] 26))
                have HR3 : Hid (Recs (wr.alloc (.cells #[.int .i64 ky, .string (tx ty), .int .u64 uy, .slice Ay ny cy, .int .u64 oy, .int .u64 my, .string (tx gy)] 26)) (wr.alloc (.cells #[.int .i64 ky, .string (tx ty), .int .u64 uy, .slice Ay ny cy, .int .u64 oy, .int .u64 my, .string (tx gy)] 26)).heap.size A3 n3 zs) := ((hr.below ((Below.refl wr.heap.size wr).alloc (Nat.le_refl _) _)).more (by simp))
                have hlt3 : wo.heap.size < wr.heap.size := (Array.getElem?_eq_some_iff.1 hbx).1
                have HBX3 := Lib.hid ((Below.heap_alloc wr (.cells #[.int .i64 ky, .string (tx ty), .int .u64 uy, .slice Ay ny cy, .int .u64 oy, .int .u64 my, .string (tx gy)] 26) wo.heap.size hlt3).trans hbx)
                have r0 := at_cell (i := 0) HBX3.out rfl
                have r1 := at_cell (i := 1) HBX3.out rfl
                have hj0 : (0 : Int) ≤ (j : Int) := by omega
                have hj1 : (j : Int) < (q : Int) := by omega
                clear hy1 hb hr hbx hlp hlt3
                cases b with
                | false =>
                  have HNO : Hid ((false = true) ↔ LP xs i t (j + 1)) := ⟨fun h => (by cases h), fun h => HLP.out.2 (HST.out.1 h).1⟩
                  go_wp2
                  exact ⟨⟨j + 1, false, by omega, by go_num, by first | rfl | trivial, HNO.out, HBX3.out, HB3.out, HR3.out⟩, by simp [intOf]; omega⟩
                | true =>
                  have HYES : Hid ((ty = t → ky ≠ 1 ∧ ky ≠ 2) → ((true = true) ↔ LP xs i t (j + 1))) := fun h => ⟨fun _ => HST.out.2 ⟨HLP.out.1 rfl, h⟩, fun _ => rfl⟩
                  have HNO : Hid (¬ (ty = t → ky ≠ 1 ∧ ky ≠ 2) → ((false = true) ↔ LP xs i t (j + 1))) := fun h => ⟨fun h2 => (by cases h2), fun h2 => absurd (HST.out.1 h2).2 h⟩
                  by_cases ht : ty = t
                  · subst ht
                    have e1 : ((tx ty).toList == (tx ty).toList) = true := tx_like ty
                    have e2 : ((tx ty).toList != (tx ty).toList) = false := by simp
                    by_cases h1 : ky = 1
                    · have HN2 := Lib.hid (HNO.out (fun h => (h rfl).1 h1))
                      have d1 : (ky != 1) = false := by rw [h1]; rfl
                      clear h1
                      go_wp2
                      exact ⟨⟨j + 1, false, by omega, by go_num, by first | rfl | trivial, HN2.out, HBX3.out, HB3.out, HR3.out⟩, by simp [intOf]; omega⟩
                    · have d1 : (ky != 1) = true := by rw [bne_iff_ne]; exact h1
                      by_cases h2 : ky = 2
                      · have HN2 := Lib.hid (HNO.out (fun h => (h rfl).2 h2))
                        have d2 : (ky != 2) = false := by rw [h2]; rfl
                        clear h1 h2
                        go_wp2
                        exact ⟨⟨j + 1, false, by omega, by go_num, by first | rfl | trivial, HN2.out, HBX3.out, HB3.out, HR3.out⟩, by simp [intOf]; omega⟩
                      · have HN2 := Lib.hid (HYES.out (fun _ => ⟨h1, h2⟩))
                        have d2 : (ky != 2) = true := by rw [bne_iff_ne]; exact h2
                        clear h1 h2
                        go_wp2
                        exact ⟨⟨j + 1, true, by omega, by go_num, by first | rfl | trivial, HN2.out, HBX3.out, HB3.out, HR3.out⟩, by simp [intOf]; omega⟩
                  · have e1 : ((tx ty).toList == (tx t).toList) = false := tx_unlike ht
                    have e2 : ((tx ty).toList != (tx t).toList) = true := by rw [bne, e1]; rfl
                    have HN2 := Lib.hid (HYES.out (fun h => absurd h ht))
                    clear ht
                    go_wp2
                    exact ⟨⟨j + 1, true, by omega, by go_num, by first | rfl | trivial, HN2.out, HBX3.out, HB3.out, HR3.out⟩, by simp [intOf]; omega⟩
              · obtain rfl : j = q := by omega
                clear hb hr hlp hjq
                have hltb : wo.heap.size < wr.heap.size := (Array.getElem?_eq_some_iff.1 hbx).1
                have HLTB := Lib.hid hltb
                clear hbx hltb
                go_wp2_with fail
                refine (HF.out t _ HR2.out).mono ?_
                rintro e w4 ⟨rr, Ar, nr, cr, ll, b1, ha1, rfl, hnr, hrr, hb4⟩
                have HB4 := Lib.hid (HB2.out.trans (hb4.mono HB2.out.size))
                have HR4 := Lib.hid ((HR2.out.below hb4).more hb4.size)
                have HX4 := Lib.hid ((hb4.block wo.heap.size HLTB.out).trans HBX2.out)
                have HLT4 : Hid (wo.heap.size < w4.heap.size) := (Nat.lt_of_lt_of_le HLTB.out hb4.size)
                have HRR := Lib.hid hrr
                have HANS := Lib.hid ha1
                clear ha1 hnr hrr hb4
                cases b with
                | false =>
                  obtain ⟨k9, t9, u9, o9, m9, g9⟩ := rr
                  simp only [rcv, rsv]
                  have HB5 := Lib.hid (HB4.out.alloc HB4.out.size (.cells #[.int .i64 k9, .string (tx t9), .int .u64 u9, .slice Ar nr cr, .int .u64 o9, .int .u64 m9, .string (tx g9)] 26))
                  have HR5 : Hid (Recs (w4.alloc (.cells #[.int .i64 k9, .string (tx t9), .int .u64 u9, .slice Ar nr cr, .int .u64 o9, .int .u64 m9, .string (tx g9)] 26)) (w4.alloc (.cells #[.int .i64 k9, .string (tx t9), .int .u64 u9, .slice Ar nr cr, .int .u64 o9, .int .u64 m9, .string (tx g9)] 26)).heap.size A3 n3 zs) := ((HR4.out.below ((Below.refl w4.heap.size w4).alloc (Nat.le_refl _) _)).more (by simp))
                  have HX5 := Lib.hid ((Below.heap_alloc w4 (.cells #[.int .i64 k9, .string (tx t9), .int .u64 u9, .slice Ar nr cr, .int .u64 o9, .int .u64 m9, .string (tx g9)] 26) wo.heap.size HLT4.out).trans HX4.out)
                  have r0 := at_cell (i := 0) HX5.out rfl
                  clear hsl
                  go_wp2
                  exact ⟨⟨i + 1, by omega, by go_num, HB5.out, HR5.out⟩, by simp [intOf]; omega⟩
                | true =>
                  obtain ⟨hb1, he⟩ := HK1.out (by first | exact .inl rfl | simp) (HLA.out (HLP.out.1 rfl)) rr ll b1 HANS.out
                  obtain ⟨rfl, rfl⟩ := he (by first | rfl | trivial)
                  obtain rfl : b1 = true := by simpa using hb1
                  simp only [rcv, rsv]
                  have HB5 := Lib.hid (HB4.out.alloc HB4.out.size (.cells #[.int .i64 1, .string (tx t), .int .u64 u, .slice Ar nr cr, .int .u64 o, .int .u64 m0, .string (tx g)] 26))
                  have HR5 : Hid (Recs (w4.alloc (.cells #[.int .i64 1, .string (tx t), .int .u64 u, .slice Ar nr cr, .int .u64 o, .int .u64 m0, .string (tx g)] 26)) (w4.alloc (.cells #[.int .i64 1, .string (tx t), .int .u64 u, .slice Ar nr cr, .int .u64 o, .int .u64 m0, .string (tx g)] 26)).heap.size A3 n3 zs) := ((HR4.out.below ((Below.refl w4.heap.size w4).alloc (Nat.le_refl _) _)).more (by simp))
                  have HX5 := Lib.hid ((Below.heap_alloc w4 (.cells #[.int .i64 1, .string (tx t), .int .u64 u, .slice Ar nr cr, .int .u64 o, .int .u64 m0, .string (tx g)] 26) wo.heap.size HLT4.out).trans HX4.out)
                  have r0 := at_cell (i := 0) HX5.out rfl
                  have HBS := Lib.hid (one_new w4 (.cells #[.int .i64 1, .string (tx t), .int .u64 u, .slice Ar nr cr, .int .u64 o, .int .u64 m0, .string (tx g)] 26))
                  have s0 := at_cell (i := 0) HBS.out rfl
                  have s1 := at_cell (i := 1) HBS.out rfl
                  have s2 := at_cell (i := 2) HBS.out rfl
                  have s3 := at_cell (i := 3) HBS.out rfl
                  have s4 := at_cell (i := 4) HBS.out rfl
                  have s5 := at_cell (i := 5) HBS.out rfl
                  have s6 := at_cell (i := 6) HBS.out rfl
                  have r1 := at_cell (i := 1) HX5.out rfl
                  have r2 := at_cell (i := 2) HX5.out rfl
                  have r3 := at_cell (i := 3) HX5.out rfl
                  have r4 := at_cell (i := 4) HX5.out rfl
                  have r5 := at_cell (i := 5) HX5.out rfl
                  have r6 := at_cell (i := 6) HX5.out rfl
                  have HNL : Hid (nr ≤ 1000000) := (by have h1 := HRR.out.1; have h2 := (HXR.out _ HB4.out).1; have h3 := HXN.out; show nr ≤ 1000000; omega)
                  have HRR5 : Hid (Reads (w4.alloc (.cells #[.int .i64 1, .string (tx t), .int .u64 u, .slice Ar nr cr, .int .u64 o, .int .u64 m0, .string (tx g)] 26)) (w4.alloc (.cells #[.int .i64 1, .string (tx t), .int .u64 u, .slice Ar nr cr, .int .u64 o, .int .u64 m0, .string (tx g)] 26)).heap.size 3 Ar nr (dps ll)) := ((HRR.out.alloc (Nat.le_refl _) _).more (by simp))
                  clear hsl hb1
                  go_wp2_with (go_at_call 18; refine (rsame_any ⟨1, t, u, o, m0, g⟩ ⟨1, t, u, o, m0, g⟩ Ar A4 nr n4 cr c4 ll ll HNL.out _ HRR5.out (HXR.out _ HB5.out)).mono ?_; rintro e w7 ⟨z, hz, rfl, hb7⟩; obtain rfl : z = true := hz.2 ⟨rfl, rfl⟩; have HB7 := Lib.hid (HB5.out.trans (hb7.mono HB5.out.size)); have HR7 := Lib.hid ((HR5.out.below hb7).more hb7.size); clear hb7 hz)
                  exact ⟨⟨i + 1, by omega, by go_num, HB7.out, HR7.out⟩, by simp [intOf]; omega⟩
          · by_cases hk2 : kd = 2
            · subst hk2
              go_wp2
              go_loopw [70, 9] (fun idx v9 wq => ∃ (j : Nat) (b : Bool), j ≤ q ∧ idx = .int .i64 (j : Int) ∧ v9 = .bool b ∧ (b = true ↔ LP xs i t j) ∧ wq.heap[wo.heap.size]? = some (.cells #[.int .i64 2, .string (tx t), .int .u64 u, .slice A4 n4 c4, .int .u64 o, .int .u64 m0, .string (tx g)] 26 (0, 0)) ∧ Below w.heap.size w wq ∧ Recs wq wq.heap.size A3 n3 zs) (fun idx _ _ => q - (intOf idx).toNat)
              case atStart => exact ⟨0, true, by omega, rfl, rfl, by simp [lp_zero], HBX.out, HB1.out, HR1.out⟩
              case round =>
                obtain ⟨j, b, hj, rfl, rfl, hlp, hbx, hb, hr⟩ := hrel
                have HLP := Lib.hid hlp
                have HBX2 := Lib.hid hbx
                have HB2 := Lib.hid hb
                have HR2 := Lib.hid hr
                have p0 := at_cell (i := 0) hbx rfl
                have p1 := at_cell (i := 1) hbx rfl
                have p2 := at_cell (i := 2) hbx rfl
                have p3 := at_cell (i := 3) hbx rfl
                have p4 := at_cell (i := 4) hbx rfl
                have p5 := at_cell (i := 5) hbx rfl
                have p6 := at_cell (i := 6) hbx rfl
                by_cases hjq : j < q
                · obtain ⟨y1, hy1⟩ : ∃ y1, (xs.drop (i + 1))[j]? = some y1 := ⟨_, List.getElem?_eq_getElem (by rw [HDL.out]; exact hjq)⟩
                  have HST := Lib.hid (lp_step (t := t) hy1)
                  obtain ⟨adp, rfl, _, c0, c1, c2, c3, c4, c5, c6⟩ := recs_cells (HCUT.out wr hb).1 j y1 hy1
                  unfold Rw.t Rw.k at HST
                  obtain ⟨⟨ky, ty, uy, oy, my, gy⟩, Ay, ny, cy, ly⟩ := y1
                  simp only at c0 c1 c2 c3 c4 c5 c6 HST
                  have HBY := Lib.hid (one_new wr (.cells #[.int .i64 ky, .string (tx ty), .int .u64 uy, .slice Ay ny cy, .int .u64 oy, .int .u64 my, .string (tx gy)] 26))
                  have s0 := at_cell (i := 0) HBY.out rfl
                  have s1 := at_cell (i := 1) HBY.out rfl
                  have HB3 := Lib.hid (hb.alloc hb.size (.cells #[.int .i64 ky, .string (tx ty), .int .u64 uy, .slice Ay ny cy, .int .u64 oy, .int .u64 my, .string (tx gy)] 26))
                  have HR3 : Hid (Recs (wr.alloc (.cells #[.int .i64 ky, .string (tx ty), .int .u64 uy, .slice Ay ny cy, .int .u64 oy, .int .u64 my, .string (tx gy)] 26)) (wr.alloc (.cells #[.int .i64 ky, .string (tx ty), .int .u64 uy, .slice Ay ny cy, .int .u64 oy, .int .u64 my, .string (tx gy)] 26)).heap.size A3 n3 zs) := ((hr.below ((Below.refl wr.heap.size wr).alloc (Nat.le_refl _) _)).more (by simp))
                  have hlt3 : wo.heap.size < wr.heap.size := (Array.getElem?_eq_some_iff.1 hbx).1
                  have HBX3 := Lib.hid ((Below.heap_alloc wr (.cells #[.int .i64 ky, .string (tx ty), .int .u64 uy, .slice Ay ny cy, .int .u64 oy, .int .u64 my, .string (tx gy)] 26) wo.heap.size hlt3).trans hbx)
                  have r0 := at_cell (i := 0) HBX3.out rfl
                  have r1 := at_cell (i := 1) HBX3.out rfl
                  have hj0 : (0 : Int) ≤ (j : Int) := by omega
                  have hj1 : (j : Int) < (q : Int) := by omega
                  clear hy1 hb hr hbx hlp hlt3
                  cases b with
                  | false =>
                    have HNO : Hid ((false = true) ↔ LP xs i t (j + 1)) := ⟨fun h => (by cases h), fun h => HLP.out.2 (HST.out.1 h).1⟩
                    go_wp2
                    exact ⟨⟨j + 1, false, by omega, by go_num, by first | rfl | trivial, HNO.out, HBX3.out, HB3.out, HR3.out⟩, by simp [intOf]; omega⟩
                  | true =>
                    have HYES : Hid ((ty = t → ky ≠ 1 ∧ ky ≠ 2) → ((true = true) ↔ LP xs i t (j + 1))) := fun h => ⟨fun _ => HST.out.2 ⟨HLP.out.1 rfl, h⟩, fun _ => rfl⟩
                    have HNO : Hid (¬ (ty = t → ky ≠ 1 ∧ ky ≠ 2) → ((false = true) ↔ LP xs i t (j + 1))) := fun h => ⟨fun h2 => (by cases h2), fun h2 => absurd (HST.out.1 h2).2 h⟩
                    by_cases ht : ty = t
                    · subst ht
                      have e1 : ((tx ty).toList == (tx ty).toList) = true := tx_like ty
                      have e2 : ((tx ty).toList != (tx ty).toList) = false := by simp
                      by_cases h1 : ky = 1
                      · have HN2 := Lib.hid (HNO.out (fun h => (h rfl).1 h1))
                        have d1 : (ky != 1) = false := by rw [h1]; rfl
                        clear h1
                        go_wp2
                        exact ⟨⟨j + 1, false, by omega, by go_num, by first | rfl | trivial, HN2.out, HBX3.out, HB3.out, HR3.out⟩, by simp [intOf]; omega⟩
                      · have d1 : (ky != 1) = true := by rw [bne_iff_ne]; exact h1
                        by_cases h2 : ky = 2
                        · have HN2 := Lib.hid (HNO.out (fun h => (h rfl).2 h2))
                          have d2 : (ky != 2) = false := by rw [h2]; rfl
                          clear h1 h2
                          go_wp2
                          exact ⟨⟨j + 1, false, by omega, by go_num, by first | rfl | trivial, HN2.out, HBX3.out, HB3.out, HR3.out⟩, by simp [intOf]; omega⟩
                        · have HN2 := Lib.hid (HYES.out (fun _ => ⟨h1, h2⟩))
                          have d2 : (ky != 2) = true := by rw [bne_iff_ne]; exact h2
                          clear h1 h2
                          go_wp2
                          exact ⟨⟨j + 1, true, by omega, by go_num, by first | rfl | trivial, HN2.out, HBX3.out, HB3.out, HR3.out⟩, by simp [intOf]; omega⟩
                    · have e1 : ((tx ty).toList == (tx t).toList) = false := tx_unlike ht
                      have e2 : ((tx ty).toList != (tx t).toList) = true := by rw [bne, e1]; rfl
                      have HN2 := Lib.hid (HYES.out (fun h => absurd h ht))
                      clear ht
                      go_wp2
                      exact ⟨⟨j + 1, true, by omega, by go_num, by first | rfl | trivial, HN2.out, HBX3.out, HB3.out, HR3.out⟩, by simp [intOf]; omega⟩
                · obtain rfl : j = q := by omega
                  clear hb hr hlp hjq
                  have hltb : wo.heap.size < wr.heap.size := (Array.getElem?_eq_some_iff.1 hbx).1
                  have HLTB := Lib.hid hltb
                  clear hbx hltb
                  go_wp2_with fail
                  refine (HF.out t _ HR2.out).mono ?_
                  rintro e w4 ⟨rr, Ar, nr, cr, ll, b1, ha1, rfl, hnr, hrr, hb4⟩
                  have HB4 := Lib.hid (HB2.out.trans (hb4.mono HB2.out.size))
                  have HR4 := Lib.hid ((HR2.out.below hb4).more hb4.size)
                  have HX4 := Lib.hid ((hb4.block wo.heap.size HLTB.out).trans HBX2.out)
                  have HLT4 : Hid (wo.heap.size < w4.heap.size) := (Nat.lt_of_lt_of_le HLTB.out hb4.size)
                  have HRR := Lib.hid hrr
                  have HANS := Lib.hid ha1
                  clear ha1 hnr hrr hb4
                  cases b with
                  | false =>
                    obtain ⟨k9, t9, u9, o9, m9, g9⟩ := rr
                    simp only [rcv, rsv]
                    have HB5 := Lib.hid (HB4.out.alloc HB4.out.size (.cells #[.int .i64 k9, .string (tx t9), .int .u64 u9, .slice Ar nr cr, .int .u64 o9, .int .u64 m9, .string (tx g9)] 26))
                    have HR5 : Hid (Recs (w4.alloc (.cells #[.int .i64 k9, .string (tx t9), .int .u64 u9, .slice Ar nr cr, .int .u64 o9, .int .u64 m9, .string (tx g9)] 26)) (w4.alloc (.cells #[.int .i64 k9, .string (tx t9), .int .u64 u9, .slice Ar nr cr, .int .u64 o9, .int .u64 m9, .string (tx g9)] 26)).heap.size A3 n3 zs) := ((HR4.out.below ((Below.refl w4.heap.size w4).alloc (Nat.le_refl _) _)).more (by simp))
                    have HX5 := Lib.hid ((Below.heap_alloc w4 (.cells #[.int .i64 k9, .string (tx t9), .int .u64 u9, .slice Ar nr cr, .int .u64 o9, .int .u64 m9, .string (tx g9)] 26) wo.heap.size HLT4.out).trans HX4.out)
                    have r0 := at_cell (i := 0) HX5.out rfl
                    clear hsl
                    go_wp2
                    exact ⟨⟨i + 1, by omega, by go_num, HB5.out, HR5.out⟩, by simp [intOf]; omega⟩
                  | true =>
                    obtain ⟨hb1, he⟩ := HK1.out (by first | exact .inr rfl | simp) (HLA.out (HLP.out.1 rfl)) rr ll b1 HANS.out
                    obtain rfl : b1 = false := by simpa using hb1
                    obtain ⟨k9, t9, u9, o9, m9, g9⟩ := rr
                    simp only [rcv, rsv]
                    have HB5 := Lib.hid (HB4.out.alloc HB4.out.size (.cells #[.int .i64 k9, .string (tx t9), .int .u64 u9, .slice Ar nr cr, .int .u64 o9, .int .u64 m9, .string (tx g9)] 26))
                    have HR5 : Hid (Recs (w4.alloc (.cells #[.int .i64 k9, .string (tx t9), .int .u64 u9, .slice Ar nr cr, .int .u64 o9, .int .u64 m9, .string (tx g9)] 26)) (w4.alloc (.cells #[.int .i64 k9, .string (tx t9), .int .u64 u9, .slice Ar nr cr, .int .u64 o9, .int .u64 m9, .string (tx g9)] 26)).heap.size A3 n3 zs) := ((HR4.out.below ((Below.refl w4.heap.size w4).alloc (Nat.le_refl _) _)).more (by simp))
                    have HX5 := Lib.hid ((Below.heap_alloc w4 (.cells #[.int .i64 k9, .string (tx t9), .int .u64 u9, .slice Ar nr cr, .int .u64 o9, .int .u64 m9, .string (tx g9)] 26) wo.heap.size HLT4.out).trans HX4.out)
                    have r0 := at_cell (i := 0) HX5.out rfl
                    clear hsl hb1 he
                    go_wp2
                    exact ⟨⟨i + 1, by omega, by go_num, HB5.out, HR5.out⟩, by simp [intOf]; omega⟩
            · have d1 : (kd != 1) = true := by rw [bne_iff_ne]; exact hk1
              have d2 : (kd != 2) = true := by rw [bne_iff_ne]; exact hk2
              clear hsl
              go_wp2
              exact ⟨⟨i + 1, by omega, by go_num, HB1.out, HR1.out⟩, by simp [intOf]; omega⟩
        · obtain rfl : i = n := by omega
          clear hb hr
          go_wp2_with (go_at_call 9; refine (HFX.out _).mono ?_; rintro e w7 ⟨rfl, hb7⟩; have HB7 := Lib.hid (HB.out.trans (hb7.mono HB.out.size)); clear hb7)
          go_ret
          exact ⟨rfl, HB7.out⟩
    · refine wp_region_held (S := fun _ => True) (by kernel_rfl) ?_
      refine h_take 0 (.slice A3 n3 c3) rfl (by kernel_rfl) (by kernel_rfl) (by kernel_rfl) (fun _ _ _ h => h) (by kernel_rfl) trivial (fun _ _ => by kernel_rfl) ?_
      refine h_one 1 rfl (by kernel_rfl) (by kernel_rfl) (fun K hK => ?_)
      go_simp
      refine (right_any A3 n3 c3 zs (by have := HN3.out; omega) _ (HR3.out _ (Below.refl _ _).drew)).mono ?_
      rintro e w4 ⟨he, hb4⟩
      obtain rfl := he.yes (right_says HZ3.out (fo_right xs))
      have HB4 := Lib.hid ((Below.refl w3.heap.size w3).drew.trans hb4)
      clear hb4
      refine hK _ _ trivial ?_
      clear hK K
      refine h_take 2 (.bool false) rfl (by kernel_rfl) (by kernel_rfl) (by kernel_rfl) (fun _ _ _ h => h) (by kernel_rfl) trivial (by intro v hv; go_simp) ?_
      refine h_take 3 (.bool false) rfl (by kernel_rfl) (by kernel_rfl) (by kernel_rfl) (fun _ _ _ h => h) (by kernel_rfl) trivial (fun _ _ => by kernel_rfl) ?_
      refine h_take 4 (.slice A3 n3 c3) rfl (by kernel_rfl) (by kernel_rfl) (by kernel_rfl) (fun _ _ _ h => h) (by kernel_rfl) trivial (fun _ _ => by kernel_rfl) ?_
      refine h_take 6 (.slice A3 n3 c3) rfl (by kernel_rfl) (by kernel_rfl) (by kernel_rfl) (fun _ _ _ h => h) (by kernel_rfl) trivial (fun _ _ => by kernel_rfl) ?_
      refine h_one 5 rfl (by kernel_rfl) (by kernel_rfl) (fun K hK => ?_)
      go_simp
      refine (fof60 A3 n3 c3 zs (by have := HN3.out; omega) HK3.out _ (HR3.out _ HB4.out)).mono ?_
      rintro e w5 ⟨A4, n4, c4, us, rfl, hn4, hu4, hk4, hst4, hb5⟩
      have HB5 := Lib.hid (HB4.out.trans (hb5.mono HB4.out.size))
      have HE5 := Lib.hid (again_fo HZ3.out hu4)
      have HN4 : Hid (n4 ≤ 1000) := (by have := HN3.out; show n4 ≤ 1000; omega)
      have HK4 := Lib.hid (hk4.sizes (state_recs hst4))
      have HU5 := Lib.hid (state_recs hst4)
      clear hb5 hn4 hu4 hk4 hst4
      refine hK _ _ trivial ?_
      clear hK K
      refine h_one 7 rfl (by kernel_rfl) (by kernel_rfl) (fun K hK => ?_)
      go_simp
      refine (rall_any A4 A3 n4 n3 c4 c3 us zs (by have := HN4.out; unfold maxLen; omega) (by have := HN3.out; unfold maxLen; omega) (fun x hx => (HK4.out x hx).2) _ HU5.out (HR3.out _ HB5.out)).mono ?_
      rintro e w6 ⟨he, hb6⟩
      obtain rfl := he.yes HE5.out
      have HB6 := Lib.hid (HB5.out.trans (hb6.mono HB5.out.size))
      clear hb6
      refine hK _ _ trivial ?_
      clear hK K
      refine h_take 8 (.bool false) rfl (by kernel_rfl) (by kernel_rfl) (by kernel_rfl) (fun _ _ _ h => h) (by kernel_rfl) trivial (by intro v hv; go_simp) ?_
      refine h_take 9 (.bool false) rfl (by kernel_rfl) (by kernel_rfl) (by kernel_rfl) (fun _ _ _ h => h) (by kernel_rfl) trivial (fun _ _ => by kernel_rfl) ?_
      refine h_take 10 (.bool false) rfl (by kernel_rfl) (by kernel_rfl) (by kernel_rfl) (fun _ _ _ h => h) (by kernel_rfl) trivial (fun _ _ => by kernel_rfl) ?_
      refine h_take 12 (.slice A n c) rfl (by kernel_rfl) (by kernel_rfl) (by kernel_rfl) (fun _ _ _ h => h) (by kernel_rfl) trivial (fun _ _ => by kernel_rfl) ?_
      refine h_take 13 (.int .i64 (k : Int)) rfl (by kernel_rfl) (by kernel_rfl) (by kernel_rfl) (fun _ _ _ h => h) (by kernel_rfl) trivial (fun _ _ => by kernel_rfl) ?_
      refine h_take 14 (.slice A k c) rfl (by kernel_rfl) (by kernel_rfl) (by kernel_rfl) (fun _ _ _ h => h) (by kernel_rfl) trivial (by intro v hv; go_simp) ?_
      refine h_take 17 (.slice A n c) rfl (by kernel_rfl) (by kernel_rfl) (by kernel_rfl) (fun _ _ _ h => h) (by kernel_rfl) trivial (fun _ _ => by kernel_rfl) ?_
      refine h_take 18 (.int .i64 (k : Int)) rfl (by kernel_rfl) (by kernel_rfl) (by kernel_rfl) (fun _ _ _ h => h) (by kernel_rfl) trivial (fun _ _ => by kernel_rfl) ?_
      refine h_take 22 (.slice A3 n3 c3) rfl (by kernel_rfl) (by kernel_rfl) (by kernel_rfl) (fun _ _ _ h => h) (by kernel_rfl) trivial (fun _ _ => by kernel_rfl) ?_
      refine h_take 19 (.slice (if c = k then A else A.map (·.add (k * 7))) (n - k) (c - k)) rfl (by kernel_rfl) (by kernel_rfl) (by kernel_rfl) (fun _ _ _ h => h) (by kernel_rfl) trivial (by intro v hv; go_simp) ?_
      have HSL : ∃ P q m : _, P = (if c = k then A else A.map (·.add (k * 7))) ∧ q = n - k ∧ m = c - k := ⟨_, _, _, rfl, rfl, rfl⟩
      obtain ⟨P, q, m, hP, hq, hm⟩ := HSL
      rw [← hP, ← hq, ← hm]
      have HCUT : Hid (∀ W, Below w.heap.size w W → Recs W W.heap.size P q (xs.drop k)) := (fun W hb => by rw [hP, hq]; exact (RD.out W hb).cut HKN.out HNC.out)
      have HCN : Hid (P = none → m = 0) := (by rw [hP, hm]; exact cut_none (k := k) (s := 7) HAC.out)
      have HQ : Hid (q ≤ 30) := (by have := HN.out; show q ≤ 30; omega)
      clear hP hq hm
      refine h_either 11 15 rfl rfl (by kernel_rfl) (by kernel_rfl) (by kernel_rfl) (fun K hK => ?_) (fun K hK => ?_)
      · go_simp
        refine hK _ _ trivial ?_
        clear hK K
        have HE7 := Lib.hid (own_less (own_emptyN w6 26 7) HB6.out.size)
        have HB7 := Lib.hid (HB6.out.alloc HB6.out.size (.cells #[] 26))
        refine h_one 15 rfl (by kernel_rfl) (by kernel_rfl) (fun K hK => ?_)
        go_simp
        refine (fof60 A k c (xs.take k) (by have := HN.out; have := HKN.out; omega) (HK.out.take k) _ ((RD.out _ (HB3.out.trans (HB7.out.mono HB3.out.size))).front HKN.out)).mono ?_
        rintro e w8 ⟨A6, n6, c6, ps, rfl, hn6, hp6, hk6, hst6, hb6⟩
        have HP6 := Lib.hid hp6
        have HN6 := Lib.hid hn6
        have HK6 := Lib.hid hk6
        have HB8 := Lib.hid (HB7.out.trans (hb6.mono HB7.out.size))
        have HO8 := Lib.hid (own_below HE7.out hb6)
        have HS8 := Lib.hid (hst6.less HB7.out.size)
        clear hn6 hp6 hk6 hst6 hb6
        refine hK _ _ trivial ?_
        clear hK K
        refine h_one 16 rfl (by kernel_rfl) (by kernel_rfl) (fun K hK => ?_)
        refine wp_append_many (.tmp 35) (.tmp 39) 22 rfl w3.heap.size 26 ig _ 7 88 Try.underlying22 hig hz0 hz1 hz2 rfl (by decide) (.slice (some ⟨w6.heap.size, 0, none⟩) 0 0) 0 [] rfl HO8.out A6 n6 c6 w8.heap.size (rws ps) rfl HS8.out.2.1 (Reads.of_own HS8.out.1) (rws_one ps) (by have := HN6.out; have := HN.out; have := HKN.out; unfold maxLen; omega) (by have := HN6.out; have := HN.out; have := HKN.out; omega) HB8.out.size ?_
        intro v40 w9 hr9 hg9 hv9
        refine hK _ _ trivial ?_
        clear hK K
        rw [Nat.zero_add, List.nil_append] at hr9
        have HB9 := Lib.hid (HB8.out.grown hg9 HB8.out.size (fun j hj => own_block HO8.out j hj))
        have HD9 : Hid (∀ z ∈ ps, Deps w9 w3.heap.size z.A z.n z.c z.l) := (fun z hz => deps_kept (HS8.out.2.2 z hz) HO8.out hg9)
        have HO9 := Lib.hid hr9
        clear hr9 hg9 hv9
        refine h_one 20 rfl (by kernel_rfl) (by kernel_rfl) (fun K hK => ?_)
        refine wp_append_many (.tmp 40) (.tmp 43) 22 rfl w3.heap.size 26 ig _ 7 88 Try.underlying22 hig hz0 hz1 hz2 rfl (by decide) v40 n6 (rws ps) rfl HO9.out P q m w9.heap.size (rws (xs.drop k)) rfl HCN.out (HCUT.out w9 (HB3.out.trans (HB9.out.mono HB3.out.size))).1 (rws_one _) (by have := HN6.out; have := HN.out; have := HKN.out; have := HQ.out; unfold maxLen; omega) (by have := HN6.out; have := HN.out; have := HKN.out; have := HQ.out; omega) HB9.out.size ?_
        intro v44 wa hra hga hva
        refine hK _ _ trivial ?_
        clear hK K
        rw [← rws_app] at hra
        obtain ⟨Aa, ca, rfl, hca⟩ := own_slice hra
        have HBA := Lib.hid (HB9.out.grown hga HB9.out.size (fun j hj => own_block HO9.out j hj))
        have HRA : Hid (Recs wa wa.heap.size Aa (n6 + q) (ps ++ xs.drop k)) := ⟨Reads.of_own hra, fun z hz => by
          rcases List.mem_append.1 hz with hz | hz
          · have h1 := deps_kept (HD9.out z hz) HO9.out hga
            exact ⟨Reads.of_own h1.1, h1.2⟩
          · exact (HCUT.out wa (HB3.out.trans (HBA.out.mono HB3.out.size))).2 z hz⟩
        clear hra hga hva hca
        refine h_one 21 rfl (by kernel_rfl) (by kernel_rfl) (fun K hK => ?_)
        go_simp
        refine (fof60 Aa (n6 + q) ca (ps ++ xs.drop k) (by have := HN6.out; have := HN.out; have := HKN.out; have := HQ.out; omega) (HK6.out.app (HK.out.drop k)) _ HRA.out).mono ?_
        rintro e wb ⟨A7, n7, c7, ts, rfl, hn7, hu7, hk7, hst7, hbb⟩
        have HBB := Lib.hid (HBA.out.trans (hbb.mono HBA.out.size))
        have HEB := Lib.hid (parted_fo k HP6.out HZ3.out hu7)
        have HN7 : Hid (n7 ≤ 1000) := (by have := HN6.out; have := HN.out; have := HKN.out; have := HQ.out; show n7 ≤ 1000; omega)
        have HK7 := Lib.hid (hk7.sizes (state_recs hst7))
        have HU7 := Lib.hid (state_recs hst7)
        clear hbb hn7 hu7 hk7 hst7
        refine hK _ _ trivial ?_
        clear hK K
        refine h_one 23 rfl (by kernel_rfl) (by kernel_rfl) (fun K hK => ?_)
        go_simp
        refine (rall_any A7 A3 n7 n3 c7 c3 ts zs (by have := HN7.out; unfold maxLen; omega) (by have := HN3.out; unfold maxLen; omega) (fun x hx => (HK7.out x hx).2) _ HU7.out (HR3.out _ HBB.out)).mono ?_
        rintro e wc ⟨he, hbc⟩
        obtain rfl := he.yes HEB.out
        have HBC := Lib.hid (HBB.out.trans (hbc.mono HBB.out.size))
        clear hbc
        refine hK _ _ trivial ?_
        clear hK K
        refine h_take 24 (.bool false) rfl (by kernel_rfl) (by kernel_rfl) (by kernel_rfl) (fun _ _ _ h => h) (by kernel_rfl) trivial (by intro v hv; go_simp) ?_
        refine h_take 25 (.bool false) rfl (by kernel_rfl) (by kernel_rfl) (by kernel_rfl) (fun _ _ _ h => h) (by kernel_rfl) trivial (fun _ _ => by kernel_rfl) ?_
        refine wpAnyH_done (by kernel_rfl) ?_ _
        go_simp
        rw [HM.out]
        exact ⟨_, _, _, _, _, _, _, _, _, _, _, _, _, _, _, _, _, _, _, _, _, _, _, _, _, rfl, HBC.out⟩
      · go_simp
        refine (fof60 A k c (xs.take k) (by have := HN.out; have := HKN.out; omega) (HK.out.take k) _ ((RD.out _ (HB3.out.trans (HB6.out.mono HB3.out.size))).front HKN.out)).mono ?_
        rintro e w7 ⟨A6, n6, c6, ps, rfl, hn6, hp6, hk6, hst6, hb6⟩
        have HP6 := Lib.hid hp6
        have HN6 := Lib.hid hn6
        have HK6 := Lib.hid hk6
        have HB7 := Lib.hid (HB6.out.trans (hb6.mono HB6.out.size))
        have HS7 := Lib.hid (hst6.less HB6.out.size)
        clear hn6 hp6 hk6 hst6 hb6
        refine hK _ _ trivial ?_
        clear hK K
        refine h_one 11 rfl (by kernel_rfl) (by kernel_rfl) (fun K hK => ?_)
        go_simp
        refine hK _ _ trivial ?_
        clear hK K
        have HO8 := Lib.hid (own_less (own_emptyN w7 26 7) HB7.out.size)
        have HB8 := Lib.hid (HB7.out.alloc HB7.out.size (.cells #[] 26))
        have HS8 : Hid (StateIn (w7.alloc (.cells #[] 26)) w3.heap.size A6 n6 c6 ps) := ⟨World.ownsRow.alloc HS7.out.1 _, HS7.out.2.1, fun z hz => deps_alloc (HS7.out.2.2 z hz) _⟩
        refine h_one 16 rfl (by kernel_rfl) (by kernel_rfl) (fun K hK => ?_)
        refine wp_append_many (.tmp 35) (.tmp 39) 22 rfl w3.heap.size 26 ig _ 7 88 Try.underlying22 hig hz0 hz1 hz2 rfl (by decide) (.slice (some ⟨w7.heap.size, 0, none⟩) 0 0) 0 [] rfl HO8.out A6 n6 c6 (w7.alloc (.cells #[] 26)).heap.size (rws ps) rfl HS8.out.2.1 (Reads.of_own HS8.out.1) (rws_one ps) (by have := HN6.out; have := HN.out; have := HKN.out; unfold maxLen; omega) (by have := HN6.out; have := HN.out; have := HKN.out; omega) HB8.out.size ?_
        intro v40 w9 hr9 hg9 hv9
        refine hK _ _ trivial ?_
        clear hK K
        rw [Nat.zero_add, List.nil_append] at hr9
        have HB9 := Lib.hid (HB8.out.grown hg9 HB8.out.size (fun j hj => own_block HO8.out j hj))
        have HD9 : Hid (∀ z ∈ ps, Deps w9 w3.heap.size z.A z.n z.c z.l) := (fun z hz => deps_kept (HS8.out.2.2 z hz) HO8.out hg9)
        have HO9 := Lib.hid hr9
        clear hr9 hg9 hv9
        refine h_one 20 rfl (by kernel_rfl) (by kernel_rfl) (fun K hK => ?_)
        refine wp_append_many (.tmp 40) (.tmp 43) 22 rfl w3.heap.size 26 ig _ 7 88 Try.underlying22 hig hz0 hz1 hz2 rfl (by decide) v40 n6 (rws ps) rfl HO9.out P q m w9.heap.size (rws (xs.drop k)) rfl HCN.out (HCUT.out w9 (HB3.out.trans (HB9.out.mono HB3.out.size))).1 (rws_one _) (by have := HN6.out; have := HN.out; have := HKN.out; have := HQ.out; unfold maxLen; omega) (by have := HN6.out; have := HN.out; have := HKN.out; have := HQ.out; omega) HB9.out.size ?_
        intro v44 wa hra hga hva
        refine hK _ _ trivial ?_
        clear hK K
        rw [← rws_app] at hra
        obtain ⟨Aa, ca, rfl, hca⟩ := own_slice hra
        have HBA := Lib.hid (HB9.out.grown hga HB9.out.size (fun j hj => own_block HO9.out j hj))
        have HRA : Hid (Recs wa wa.heap.size Aa (n6 + q) (ps ++ xs.drop k)) := ⟨Reads.of_own hra, fun z hz => by
          rcases List.mem_append.1 hz with hz | hz
          · have h1 := deps_kept (HD9.out z hz) HO9.out hga
            exact ⟨Reads.of_own h1.1, h1.2⟩
          · exact (HCUT.out wa (HB3.out.trans (HBA.out.mono HB3.out.size))).2 z hz⟩
        clear hra hga hva hca
        refine h_one 21 rfl (by kernel_rfl) (by kernel_rfl) (fun K hK => ?_)
        go_simp
        refine (fof60 Aa (n6 + q) ca (ps ++ xs.drop k) (by have := HN6.out; have := HN.out; have := HKN.out; have := HQ.out; omega) (HK6.out.app (HK.out.drop k)) _ HRA.out).mono ?_
        rintro e wb ⟨A7, n7, c7, ts, rfl, hn7, hu7, hk7, hst7, hbb⟩
        have HBB := Lib.hid (HBA.out.trans (hbb.mono HBA.out.size))
        have HEB := Lib.hid (parted_fo k HP6.out HZ3.out hu7)
        have HN7 : Hid (n7 ≤ 1000) := (by have := HN6.out; have := HN.out; have := HKN.out; have := HQ.out; show n7 ≤ 1000; omega)
        have HK7 := Lib.hid (hk7.sizes (state_recs hst7))
        have HU7 := Lib.hid (state_recs hst7)
        clear hbb hn7 hu7 hk7 hst7
        refine hK _ _ trivial ?_
        clear hK K
        refine h_one 23 rfl (by kernel_rfl) (by kernel_rfl) (fun K hK => ?_)
        go_simp
        refine (rall_any A7 A3 n7 n3 c7 c3 ts zs (by have := HN7.out; unfold maxLen; omega) (by have := HN3.out; unfold maxLen; omega) (fun x hx => (HK7.out x hx).2) _ HU7.out (HR3.out _ HBB.out)).mono ?_
        rintro e wc ⟨he, hbc⟩
        obtain rfl := he.yes HEB.out
        have HBC := Lib.hid (HBB.out.trans (hbc.mono HBB.out.size))
        clear hbc
        refine hK _ _ trivial ?_
        clear hK K
        refine h_take 24 (.bool false) rfl (by kernel_rfl) (by kernel_rfl) (by kernel_rfl) (fun _ _ _ h => h) (by kernel_rfl) trivial (by intro v hv; go_simp) ?_
        refine h_take 25 (.bool false) rfl (by kernel_rfl) (by kernel_rfl) (by kernel_rfl) (fun _ _ _ h => h) (by kernel_rfl) trivial (fun _ _ => by kernel_rfl) ?_
        refine wpAnyH_done (by kernel_rfl) ?_ _
        go_simp
        rw [HM.out]
        exact ⟨_, _, _, _, _, _, _, _, _, _, _, _, _, _, _, _, _, _, _, _, _, _, _, _, _, rfl, HBC.out⟩
  · have SM := Lib.hid sm
    clear h hf rd sm hn hac
    go_enter Try.func5, Try.ntmps5
    go_wp2_with (first
      | (go_at_call 9; refine (HFX.out _).mono ?_; rintro e w4 ⟨rfl, hb4⟩; have HB4 := Lib.hid (HB2.out.trans (hb4.mono HB2.out.size)); clear hb4)
      | (go_at_call 7; refine (HG.out _ HB0.out).mono ?_; rintro e w2 ⟨he, hb2⟩; obtain rfl := he.yes SM.out; have HB2 := Lib.hid (HB0.out.trans (hb2.mono HB0.out.size)); clear hb2))
    go_ret
    exact ⟨rfl, HB4.out⟩

end Go.Proofs.Ytbgjlkbfelgglaa
