/- The document's Waves. -/
import Derived.Test.YtcfmpajdhbcimaaQe0
import Derived.Test.YtcfmpajdhbcimaaXl
import Derived.Test.YtcfmpajdhbcimaaGj
import Derived.Test.YtcfmpajdhbcimaaH
namespace Go.Proofs.Ytcfmpajdhbcimaa
open Go.RowKit Go.Maps Go.Sort

theorem rwaves_bad (A : Option Addr) (n c : Nat) (xs : List Nw) (hn : n ≤ 1000) (hnc : n ≤ c) (hok : NOk xs) (hxc : ∀ x ∈ xs, x.n ≤ x.c) (hc0 : chk (nds xs) ≠ 0) (w : World) (h : Nodes w w.heap.size A n xs) :
    Calls Try.prog 7 #[.slice A n c] w fun e w' => (∃ A' c', e = .returned (.tuple #[.slice A' 0 c', .int .i64 (chk (nds xs))])) ∧ Below w.heap.size w w' := by
  have HB1 := Lib.hid ((Below.refl w.heap.size w).alloc (Nat.le_refl _) (.cells #[] 33))
  have HCK := Lib.hid (rcheck_any A n c xs (by omega) hnc hok hxc _ ((h.below HB1.out).more HB1.out.size))
  obtain ⟨z, hz⟩ : ∃ z, z = chk (nds xs) := ⟨_, rfl⟩
  rw [← hz] at HCK hc0 ⊢
  have hz0 : (z == 0) = false := by rw [beq_eq_false_iff_ne]; exact hc0
  have hy0 : (z != 0) = true := by rw [bne_iff_ne]; exact hc0
  clear hz hc0 h hok hxc
  go_enter Try.func7, Try.ntmps7
  go_wp2_with (go_at_call 12; refine HCK.out.mono ?_; rintro e w1 ⟨rfl, hb1⟩; have HB2 := Lib.hid (HB1.out.trans (hb1.mono HB1.out.size)); clear hb1)
  go_ret2
  exact ⟨⟨_, _, rfl⟩, HB2.out⟩

set_option maxRecDepth 100000 in
set_option maxHeartbeats 8000000 in
theorem rwaves_ok (A : Option Addr) (n c : Nat) (xs : List Nw) (hn : n ≤ 1000) (hnc : n ≤ c) (hok : NOk xs) (hxc : ∀ x ∈ xs, x.n ≤ x.c) (hxn : ∀ x ∈ xs, x.n ≤ 1000) (hc0 : chk (nds xs) = 0) (w : World) (h : Nodes w w.heap.size A n xs) :
    Calls Try.prog 7 #[.slice A n c] w fun e w' => (∃ v vs, e = .returned (.tuple #[v, .int .i64 0]) ∧ RR w' w.heap.size v (wavesOf (nds xs)) vs) ∧ Below w.heap.size w w' := by
  have HNMS : Hid (∀ u ∈ (nds xs).map Nd.name, u.length ≤ maxLen) := fun u hu => by
    obtain ⟨y, hy, rfl⟩ := List.mem_map.1 hu
    obtain ⟨z, hz, rfl⟩ := List.mem_map.1 hy
    exact (hok z hz).1.1
  have HL : Hid (xs.length = n) := h.len
  have HLD : Hid ((nds xs).length = n) := by show _ = _; rw [nds_len]; exact h.len
  have HNS := Lib.hid h
  have HF := Lib.hid hok
  have HXN := Lib.hid hxn
  have hokc := chk_ok.1 hc0
  have HND := Lib.hid hokc.2.1
  have HB1 := Lib.hid ((Below.refl w.heap.size w).alloc (Nat.le_refl _) (.cells #[] 33))
  have HCK := Lib.hid (rcheck_any A n c xs (by omega) hnc hok hxc _ ((h.below HB1.out).more HB1.out.size))
  rw [hc0] at HCK
  have HROW := Lib.hid (fun (W : World) (hb : Below w.heap.size w W) => rrow_any A n c xs (by omega) hok hokc.2.1 hokc.2.2.2.1 W ((h.below hb).more hb.size))
  rw [hokc.2.2.2.2, HLD.out] at HROW
  have HPLC := Lib.hid (fun (W : World) (hb : Below w.heap.size w W) (s : List UInt8) => rplace_any A n c xs s (by omega) W ((h.below hb).more hb.size).1)
  have HLV := Lib.hid (fun (i : Nat) (hi : i < (nds xs).length) => lv_node hc0 hi)
  have HLA := Lib.hid (fun (i j : Nat) (x : Nd) (hi : i < (nds xs).length) (hj : (ord (nds xs))[i]? = some j) (hx : (nds xs)[j]? = some x) => lev_at hc0 hi hj hx)
  have HLE := Lib.hid (fun (i j : Nat) (x : Nd) (hi : i < (nds xs).length) (hj : (ord (nds xs))[i]? = some j) (hx : (nds xs)[j]? = some x) => lev_le hc0 hi hj hx)
  have HIN : Hid (∀ x ∈ nds xs, ∀ d ∈ x.deps, d ∈ (nds xs).map Nd.name ∧ d ∈ nmO (nds xs)) := fun x hx d hd => ⟨hokc.2.2.2.1 x hx d hd, nmO_all hc0 (hokc.2.2.2.1 x hx d hd)⟩
  have HWN : Hid (∀ i, i ≤ n → wvN (nds xs) i ≤ i) := fun i hi => wvN_le (nds xs) hc0 i (by rw [HLD.out]; exact hi)
  have HDE : Hid (dL (nds xs) n = (nds xs).map (fun x => lev (nds xs) x.name)) := by show _ = _; rw [← HLD.out]; exact dL_end hc0
  have HWD : Hid (∀ w0 S, SInv (lF (nds xs) w0) (lC (nds xs) w0 n) S → S = srt (wv (nds xs) n w0)) := fun w0 S hS => by rw [← HLD.out] at hS ⊢; exact wave_done hc0 hS
  have HWS : Hid (∀ k, k < wvN (nds xs) n → srt (wv (nds xs) n k) ≠ []) := fun k hk => by rw [← HLD.out] at hk ⊢; exact wave_some hc0 hk
  have HWZ : Hid (∀ k, wvN (nds xs) n ≤ k → srt (wv (nds xs) n k) = []) := fun k hk => by rw [← HLD.out] at hk ⊢; exact wave_none hk
  have HWT : Hid (∀ k, k < wvN (nds xs) n → (wavesOf (nds xs)).take k ++ [srt (wv (nds xs) n k)] = (wavesOf (nds xs)).take (k + 1)) := fun k hk => by rw [← HLD.out] at hk ⊢; exact waves_take hk
  have HWL : Hid ((wavesOf (nds xs)).length = wvN (nds xs) n) := by show _ = _; rw [waves_len, HLD.out]
  have HD0 : Hid (dL (nds xs) 0 = List.replicate n 0) := by show _ = _; rw [dL_start, HLD.out]
  obtain ⟨ii, hu0, hz0, hz1, hz2⟩ := info_parts info_textq
  obtain ⟨i1, s0, s1, s2, s3⟩ := info_parts info_intq
  obtain ⟨i2, r0, r1, r2, r3⟩ := info_parts info_rows
  have HRR0 : Hid (RR (w.alloc (.cells #[] 33)) w.heap.size (.slice (some ⟨w.heap.size, 0, none⟩) 0 0) [] []) := ⟨own_emptyr w, by simp, by simp⟩
  clear h hok hxc hxn hc0 hokc
  go_enter Try.func7, Try.ntmps7
  go_wp2_with (go_at_call 12; refine HCK.out.mono ?_; rintro e w1 ⟨rfl, hb1⟩; have HRR1 := Lib.hid (HRR0.out.below (hb1.mono (Nat.le_refl _))); have HB2 := Lib.hid (HB1.out.trans (hb1.mono HB1.out.size)); clear hb1)
  have HE6 := Lib.hid (own_less (own_empty w1 3) HB2.out.size)
  have HAL1 : Hid (Below w1.heap.size w1 (w1.alloc (.cells #[] 3))) := (Below.refl _ _).alloc (Nat.le_refl _) _
  have HRR2 := Lib.hid (HRR1.out.below HAL1.out)
  have HB3 := Lib.hid (HB2.out.trans (HAL1.out.mono HB2.out.size))
  clear HRR0 HRR1 HB1 HB2 HAL1 HCK
  generalize (w1.alloc (.cells #[] 3)) = w2 at HE6 HRR2 HB3 ⊢
  go_loopw [6, 7] (fun v6 v7 wr => ∃ (i : Nat) (A6 : Option Addr) (c6 : Nat), i ≤ n ∧ v7 = .int .i64 (i : Int) ∧ v6 = .slice A6 i c6 ∧ wr.ownsRow w.heap.size 3 1 (.slice A6 i c6) i (ivs (List.replicate i 0)) ∧ RR wr w.heap.size (.slice (some ⟨w.heap.size, 0, none⟩) 0 0) [] [] ∧ Below w.heap.size w wr) (fun _ v7 _ => n - (intOf v7).toNat)
  case atStart => exact ⟨0, _, _, by omega, rfl, rfl, HE6.out, HRR2.out, HB3.out⟩
  case round =>
    obtain ⟨i, A6, c6, hi, rfl, rfl, ho6, hrr, hb⟩ := hrel
    have HO6 := Lib.hid ho6
    have HRR := Lib.hid hrr
    have HB := Lib.hid hb
    by_cases hlt : i < n
    · have HI : Hid (i < n) := hlt
      have hi0 : (0 : Int) ≤ (i : Int) := by omega
      have hi1 : (i : Int) < (n : Int) := by omega
      have hal : Below wr.heap.size wr (wr.alloc (.cells #[.int .i64 0] 3)) := (Below.refl _ _).alloc (Nat.le_refl _) _
      have HAL := Lib.hid hal
      have HRW := Lib.hid (reads_one_row wr 3 (.int .i64 0))
      clear ho6 hrr hb hlt hal
      go_wp2_with (at_builtin; refine wpList_append_many _ rfl (.tmp 31) (.tmp 32) 37 rfl w.heap.size 3 i1 _ 1 8 Try.underlying37 s0 s1 s2 s3 rfl (by decide) (.slice A6 i c6) i _ rfl (HO6.out.alloc _) (some ⟨wr.heap.size, 0, none⟩) 1 1 (wr.heap.size + 1) [.int .i64 0] rfl (by intro h; cases h) HRW.out (by intro u hu; simp at hu; subst hu; rfl) (by unfold maxLen; omega) (by omega) (by have := HB.out.size; have := HAL.out.size; omega) ?_; intro v5 w5 ho5 hg5; have HO5 := Lib.hid ho5; have HG5 := Lib.hid hg5; clear ho5 hg5)
      obtain ⟨A9, c9, rfl, _⟩ := own_slice HO5.out
      have e : ivs (List.replicate (i + 1) 0) = ivs (List.replicate i 0) ++ [.int .i64 0] := by
        rw [List.replicate_succ', ivs, List.map_append]
        rfl
      exact ⟨⟨i + 1, A9, c9, HI.out, by go_num, rfl, by rw [e]; exact HO5.out, (HRR.out.below HAL.out).kept HG5.out (.inr (fun e => own_apart HO6.out HRR.out.1 (by decide) _ e.symm rfl)) (fun k x hk => by simp at hk), (HB.out.trans (HAL.out.mono HB.out.size)).grown HG5.out (Nat.le_trans HB.out.size HAL.out.size) (fun x hx => own_block HO6.out x hx)⟩, by have := HI.out; simp [intOf]; omega⟩
    · obtain rfl : i = n := by omega
      obtain ⟨n, hnn⟩ : ∃ n, n = i := ⟨_, rfl⟩
      subst hnn
      rw [← HD0.out] at HO6
      have HROW2 := Lib.hid (HROW.out wr hb)
      clear ho6 hrr hb hlt hi HE6 HRR2 HB3 HD0 HROW
      go_wp2_with (go_at_call 13; refine HROW2.out.mono ?_; rintro e w3 ⟨⟨A8, c8, rfl, ho8⟩, hb3⟩; have HAP := Lib.hid (show Apart (.slice A6 n c6) (.slice A8 n c8) from fun g h1 h2 => by have h3 := own_lt HO6.out g h1; have h4 := own_block ho8 g h2; omega); have HO8 := Lib.hid (own_less ho8 HB.out.size); have HO6b := Lib.hid (own_below HO6.out hb3); have HRRb := Lib.hid (HRR.out.below hb3); have HBb := Lib.hid (HB.out.trans (hb3.mono HB.out.size)); clear ho8 hb3)
      clear HROW2 HRR HB HO6
      go_loopw [9] (fun v9 wr => ∃ i : Nat, i ≤ n ∧ v9 = .int .i64 (i : Int) ∧ wr.ownsRow w.heap.size 3 1 (.slice A6 n c6) n (ivs (dL (nds xs) i)) ∧ wr.ownsRow w.heap.size 3 1 (.slice A8 n c8) n (ivs (ord (nds xs))) ∧ RR wr w.heap.size (.slice (some ⟨w.heap.size, 0, none⟩) 0 0) [] [] ∧ Below w.heap.size w wr) (fun v9 _ => n - (intOf v9).toNat)
      case atStart => exact ⟨0, by omega, rfl, HO6b.out, HO8.out, HRRb.out, HBb.out⟩
      case round =>
        obtain ⟨i, hi, rfl, hv6, hv8, hrr, hb⟩ := hrel
        by_cases hlt : i < n
        · obtain ⟨j, y, hj, hy, hnm, hds⟩ := HLV.out i (by rw [HLD.out]; exact hlt)
          have hjn : j < n := by rw [← HLD.out]; exact (List.getElem?_eq_some_iff.1 hy).1
          obtain ⟨x, hx⟩ : ∃ x, xs[j]? = some x := ⟨_, List.getElem?_eq_getElem (by rw [HL.out]; exact hjn)⟩
          have e : y = x.d := by rw [nds_at hx] at hy; exact (Option.some.inj hy).symm
          subst e
          have hmx := List.mem_of_getElem? hx
          have hlv := HLA.out i j x.d (by rw [HLD.out]; exact hlt) hj hy
          have hle := HLE.out i j x.d (by rw [HLD.out]; exact hlt) hj hy
          have hset := dL_set HND.out hy hnm
          have hsam := dL_same hy hnm
          have hdz := dL_zero hy (not_yet (nmO_nodup _) hnm)
          have hin : ∀ d ∈ x.d.deps, ∃ (p : Nat) (yd : Nd), (nds xs)[p]? = some yd ∧ yd.name = d ∧ tplace ((nds xs).map Nd.name) d = (p : Int) ∧ p < n ∧ p ≠ j ∧ (dL (nds xs) i)[p]? = some (lev (nds xs) d) ∧ d ∈ (nmO (nds xs)).take i := fun d hd => by
            obtain ⟨h1, h2⟩ := HIN.out x.d (List.mem_of_getElem? hy) d hd
            have hah := mem_ahead h2 (hds d hd)
            have hp := at_idx h1
            obtain ⟨p, hpe⟩ : ∃ p, p = ((nds xs).map Nd.name).idxOf d := ⟨_, rfl⟩
            rw [← hpe] at hp
            rw [List.getElem?_map] at hp
            obtain ⟨yd, hyd, hn2⟩ := Option.map_eq_some_iff.1 hp
            refine ⟨p, yd, hyd, hn2, ?_, by rw [← HLD.out]; exact (List.getElem?_eq_some_iff.1 hyd).1, fun e2 => ?_, by rw [← hn2]; exact dL_get hyd (by rw [hn2]; exact hah), hah⟩
            · rw [hpe]; exact if_pos h1
            · subst e2
              rw [hy] at hyd
              rw [← hn2, ← Option.some.inj hyd] at hah
              exact not_yet (nmO_nodup _) hnm hah
          obtain ⟨g6, c62, e6, hgb6, hgl6⟩ := own_pos hv6 (by omega)
          injection e6 with e1 _ e3
          subst e1 e3
          obtain ⟨g8, c82, e8, hgb8, hgl8⟩ := own_pos hv8 (by omega)
          injection e8 with e1 _ e3
          subst e1 e3
          have HJ := Lib.hid hj
          have HIN2 := Lib.hid hin
          have HAH : Hid (∀ d ∈ x.d.deps, d ∈ (nmO (nds xs)).take i) := fun d hd => mem_ahead (HIN.out x.d (List.mem_of_getElem? hy) d hd).2 (hds d hd)
          have HSET := Lib.hid hset
          have HLVX := Lib.hid hlv
          have HLEX := Lib.hid (Nat.le_trans hle (HWN.out i hi))
          have HDZ := Lib.hid hdz
          have HX := Lib.hid hx
          have HJN : Hid (j < n) := hjn
          have HI : Hid (i < n) := hlt
          have HX1 := Lib.hid (show Reads w w.heap.size 1 x.A x.n (x.d.deps.map tsv) from HNS.out.2 x hmx)
          have HDL : Hid (x.d.deps.length = x.n) := (HNS.out.2 x hmx).len
          have hxn : x.n ≤ 1000 := HXN.out x hmx
          have hv6b : wr.ownsRow w.heap.size 3 1 (.slice (some ⟨g6, 0, none⟩) n c6) n (ivs ((dL (nds xs) i).set j 0)) := by rw [hsam]; exact hv6
          have HV6 := Lib.hid hv6b
          have HV8 := Lib.hid hv8
          have HRR2 := Lib.hid hrr
          have HB2 := Lib.hid hb
          have HAP68 := Lib.hid HAP.out
          have hi0 : (0 : Int) ≤ (i : Int) := by omega
          have hi1 : (i : Int) < (n : Int) := by omega
          have hj0 : (0 : Int) ≤ (j : Int) := by omega
          have hj1 : (j : Int) < (n : Int) := by omega
          obtain ⟨⟨nm, sc, ru, ds⟩, xA, xn, xc⟩ := x
          simp only at HIN2 HAH HSET HLVX HLEX HX1 HDL hxn
          obtain ⟨L, hL⟩ : ∃ L, L = dL (nds xs) i := ⟨_, rfl⟩
          rw [← hL] at HSET HDZ HIN2 HV6
          have HLL : Hid (L.length = n) := by show _ = _; rw [hL, dL_len, HLD.out]
          clear hj hy hnm hds hx hmx hlv hle hset hsam hdz hin hv6 hv8 hrr hb hlt hv6b hL hjn
          go_wp2
          go_loopw [10] (fun v10 wr => ∃ k : Nat, k ≤ xn ∧ v10 = .int .i64 (k : Int) ∧ wr.ownsRow w.heap.size 3 1 (.slice (some ⟨g6, 0, none⟩) n c6) n (ivs (L.set j (levOf (lev (nds xs)) (ds.take k)))) ∧ wr.ownsRow w.heap.size 3 1 (.slice (some ⟨g8, 0, none⟩) n c8) n (ivs (ord (nds xs))) ∧ RR wr w.heap.size (.slice (some ⟨w.heap.size, 0, none⟩) 0 0) [] [] ∧ Below w.heap.size w wr) (fun v10 _ => xn - (intOf v10).toNat)
          case atStart => exact ⟨0, by omega, rfl, HV6.out, HV8.out, HRR2.out, HB2.out⟩
          case round =>
            obtain ⟨k, hk, rfl, hv6, hv8, hrr, hb⟩ := hrel
            have HV6 := Lib.hid hv6
            have HV8 := Lib.hid hv8
            have HRR2 := Lib.hid hrr
            have HB2 := Lib.hid hb
            have c8i := own_cellq hv8 i (show (ivs (ord (nds xs)))[i]? = some (.int .i64 (j : Int)) by unfold ivs; rw [List.getElem?_map, HJ.out]; rfl)
            obtain ⟨ad, rfl, hab, k0, k1, k2, k3⟩ := nodes_cells (HNS.out.below hb).1 j _ HX.out
            simp only at k0 k1 k2 k3
            by_cases hlt : k < xn
            · obtain ⟨d, hd⟩ : ∃ d, ds[k]? = some d := ⟨_, List.getElem?_eq_getElem (by rw [HDL.out]; exact hlt)⟩
              obtain ⟨ax, sv, rfl, hxb, hsv, hsc⟩ := (HX1.out.below hb).at_ hlt
              obtain rfl : sv = tsv d := by rw [List.getElem?_map, hd] at hsv; simpa using hsv.symm
              unfold tsv at hsc
              obtain ⟨p, yd, hyd, hydn, htp, hpn, hpj, hLp, hah⟩ := HIN2.out d (List.mem_of_getElem? hd)
              have hlt2 := lev_lt hah
              have hwn := HWN.out i hi
              have hsn := levOf_snoc (lev (nds xs)) hd
              have hcap : levOf (lev (nds xs)) (ds.take k) ≤ i := levOf_bound fun u hu => Nat.le_trans (lev_lt (HAH.out u (List.mem_of_mem_take hu))) hwn
              have HPL := Lib.hid (HPLC.out wr hb d)
              rw [htp] at HPL
              obtain ⟨e, he⟩ : ∃ e, e = lev (nds xs) d := ⟨_, rfl⟩
              rw [← he] at hLp hlt2 hsn
              obtain ⟨a0, ha0⟩ : ∃ a0, a0 = levOf (lev (nds xs)) (ds.take k) := ⟨_, rfl⟩
              rw [← ha0] at hsn hcap HV6
              have cp := own_cellq HV6.out p (show (ivs (L.set j a0))[p]? = some (.int .i64 (e : Int)) by unfold ivs; rw [List.getElem?_map, List.getElem?_set, if_neg (Ne.symm hpj), hLp]; rfl)
              have cj := own_cellq HV6.out j (show (ivs (L.set j a0))[j]? = some (.int .i64 (a0 : Int)) by unfold ivs; rw [List.getElem?_map, List.getElem?_set, if_pos rfl, if_pos (by rw [HLL.out]; exact HJN.out)]; rfl)
              have hen : e ≤ 1000 := by omega
              have han : a0 ≤ 1000 := by omega
              have hk0 : (0 : Int) ≤ (k : Int) := by omega
              have hk1 : (k : Int) < (xn : Int) := by omega
              have hp0 : (0 : Int) ≤ (p : Int) := by omega
              have hp1 : (p : Int) < (n : Int) := by omega
              have HLT : Hid (k < xn) := hlt
              have HSN := Lib.hid hsn
              clear hd hsv hv6 hv8 hrr hb hyd hydn htp hpn hpj hLp hah hlt2 hwn hcap he ha0 hsn hlt
              by_cases hgt : (e : Int) + 1 > (a0 : Int)
              · have HS2 : Hid (levOf (lev (nds xs)) (ds.take (k + 1)) = e + 1) := by show _ = _; rw [HSN.out]; omega
                go_wp2_with (first
                  | (go_at_call 14; refine HPL.out.mono ?_; rintro e w4 ⟨rfl, rfl⟩)
                  | ((with_reducible show wpList _ _ _ (Oper.mk _ (Op.store _ _ _) _ _ _ _ :: _) _ _); refine wpList_plain rfl (fun K hK => ?_); refine wp_store_intcell (.tmp 87) (.tmp 86) rfl g6 j (((e + 1 : Nat) : Int)) rfl (by go_simp) w.heap.size n c6 _ HV6.out HJN.out ?_; intro w7 ho7 hg7; refine hK _ _ ?_; clear hK; have HV7 := Lib.hid ho7; have HR7 := Lib.hid (own_kept HV8.out HAP68.out hg7); have HB7 := Lib.hid (HB2.out.grown hg7 HB2.out.size (fun x hx => by cases hx; exact own_block HV6.out g6 rfl)); have HRR7 := Lib.hid (HRR2.out.kept hg7 (.inr (fun e => own_apart HV6.out HRR2.out.1 (by decide) g6 rfl e)) (fun k x hk => by simp at hk)); clear ho7 hg7))
                have hv7 := HV7.out
                rw [ivs_set, List.set_set] at hv7
                exact ⟨⟨k + 1, HLT.out, by go_num, by rw [HS2.out]; exact hv7, HR7.out, HRR7.out, HB7.out⟩, by have := HLT.out; simp [intOf]; omega⟩
              · have HS2 : Hid (levOf (lev (nds xs)) (ds.take (k + 1)) = a0) := by show _ = _; rw [HSN.out]; omega
                go_wp2_with (go_at_call 14; refine HPL.out.mono ?_; rintro e w4 ⟨rfl, rfl⟩)
                exact ⟨⟨k + 1, HLT.out, by go_num, by rw [HS2.out]; exact HV6.out, HV8.out, HRR2.out, HB2.out⟩, by have := HLT.out; simp [intOf]; omega⟩
            · obtain rfl : k = xn := by omega
              rw [List.take_of_length_le (by rw [HDL.out]; exact Nat.le_refl _), ← HLVX.out, HSET.out] at HV6
              clear hv6 hv8 hrr hb hlt
              go_wp2
              exact ⟨⟨i + 1, HI.out, by go_num, HV6.out, HV8.out, HRR2.out, HB2.out⟩, by have := HI.out; simp [intOf]; omega⟩
        · obtain rfl : i = n := by omega
          rw [HDE.out] at hv6
          have HV6 := Lib.hid hv6
          have HRR4 := Lib.hid hrr
          have HB4 := Lib.hid hb
          obtain ⟨n, hnn⟩ : ∃ n, n = i := ⟨_, rfl⟩
          subst hnn
          clear hv6 hv8 hrr hb hlt hi HO6b HO8 HRRb HBb HAP HLV HLA HLE HIN HPLC
          have HNN := HWN.out n (Nat.le_refl _)
          have HWNN := Lib.hid HNN
          clear HNN
          go_wp2
          go_loopw [12, 4] (fun v12 v4 wr => ∃ (w0 : Nat) (vs : List Value), w0 ≤ wvN (nds xs) n ∧ v12 = .int .i64 (w0 : Int) ∧ RR wr w.heap.size v4 ((wavesOf (nds xs)).take w0) vs ∧ wr.ownsRow w.heap.size 3 1 (.slice A6 n c6) n (ivs ((nds xs).map (fun x => lev (nds xs) x.name))) ∧ Below w.heap.size w wr) (fun v12 _ _ => n + 1 - (intOf v12).toNat)
          case atStart => exact ⟨0, [], by omega, rfl, HRR4.out, HV6.out, HB4.out⟩
          case round =>
            obtain ⟨w0, vs, hw0, rfl, hrr, hv6, hb⟩ := hrel
            have hlen : ((wavesOf (nds xs)).take w0).length = w0 := by rw [List.length_take, HWL.out]; omega
            obtain ⟨A4o, c4o, rfl, _⟩ := own_slice hrr.1
            rw [hlen] at ⊢ hrr
            obtain ⟨wS, hwS⟩ : ∃ x, x = wr := ⟨_, rfl⟩
            subst hwS
            have HRR := Lib.hid hrr
            have HV6 := Lib.hid hv6
            have HB := Lib.hid hb
            have HW0 := Lib.hid hw0
            have HLEN := Lib.hid hlen
            have hw1 : w0 ≤ 1000 := by have := HWNN.out; omega
            have HE1 := Lib.hid (own_empty wS 9)
            have HBE := Lib.hid ((Below.refl wS.heap.size wS).alloc (Nat.le_refl _) (.cells #[] 9))
            have HS0 : Hid (SInv (lF (nds xs) w0) 0 []) := ⟨List.Pairwise.nil, rfl, by simp⟩
            clear hrr hv6 hb hw0 hlen HRR4 HB4
            go_wp2
            go_loopw [13, 14] (fun v13 v14 wr => ∃ (t i : Nat) (S : List (List UInt8)) (ad3 : Addr) (c3 : Nat), t ≤ n ∧ i = lC (nds xs) w0 t ∧ v14 = .int .i64 (t : Int) ∧ v13 = .slice (some ad3) i c3 ∧ SInv (lF (nds xs) w0) i S ∧ wr.ownsRow wS.heap.size 9 1 (.slice (some ad3) i c3) i (S.map tsv) ∧ Below wS.heap.size wS wr) (fun _ v14 _ => n - (intOf v14).toNat)
            case atStart => exact ⟨0, 0, [], _, 0, by omega, (lC_zero _ _).symm, rfl, rfl, HS0.out, HE1.out, HBE.out⟩
            case round =>
              obtain ⟨t, i, S, ad3, c3, ht, hci, rfl, rfl, hsi, hown, hb⟩ := hrel
              have HSI := Lib.hid hsi
              have HB3 := Lib.hid hb
              have HOW := Lib.hid hown
              obtain ⟨wI, hwI⟩ : ∃ x, x = wr := ⟨_, rfl⟩
              subst hwI
              have hit : i ≤ t := by rw [hci]; exact lC_le _ _ _
              have hin : i ≤ 1000 := by omega
              by_cases hlt : t < n
              · obtain ⟨x0, hx0⟩ : ∃ x0, xs[t]? = some x0 := ⟨_, List.getElem?_eq_getElem (by rw [HL.out]; exact hlt)⟩
                have hnd := nds_at hx0
                have hv6r := own_below HV6.out hb
                obtain ⟨g6, c62, e6, hgb6, hgl6⟩ := own_pos hv6r (by omega)
                injection e6 with e1 _ e3
                subst e1 e3
                have c6t := own_cellq hv6r t (show (ivs ((nds xs).map (fun x => lev (nds xs) x.name)))[t]? = some (.int .i64 ((lev (nds xs) x0.d.name : Nat) : Int)) by unfold ivs; rw [List.getElem?_map, List.getElem?_map, hnd]; rfl)
                have HSK := Lib.hid (fun h => lC_skip (w := w0) hnd h)
                have HST := Lib.hid (fun h => lC_step (w := w0) hnd h)
                have HXL : Hid (x0.d.name.length ≤ maxLen) := HNMS.out _ (List.mem_map.2 ⟨x0.d, List.mem_of_getElem? hnd, rfl⟩)
                obtain ⟨ad5, rfl, hab5, k0, _, _, _⟩ := nodes_cells (HNS.out.below (HB.out.trans (hb.mono HB.out.size))).1 t x0 hx0
                have HCELL : Hid (∀ v, Below wS.heap.size wS v → v.cell? (ad5.add (t * 4)) = some (.string (tx x0.d.name))) := fun v hv => by
                  obtain ⟨ad6, e6, _, h6, _, _, _⟩ := nodes_cells (HNS.out.below (HB.out.trans (hv.mono HB.out.size))).1 t x0 hx0
                  obtain rfl : ad5 = ad6 := Option.some.inj e6
                  exact h6
                obtain ⟨x, hxe⟩ : ∃ x, x = x0.d.name := ⟨_, rfl⟩
                rw [← hxe] at c6t HSK HST HXL k0 HCELL
                have ht0 : (0 : Int) ≤ (t : Int) := by omega
                have ht1 : (t : Int) < (n : Int) := by omega
                have HTN : Hid (t < n) := hlt
                have HCI := Lib.hid hci
                clear hx0 hnd hv6r hlt hxe hab5
                by_cases hlw : lev (nds xs) x = w0
                · rw [hlw] at c6t
                  obtain ⟨hcn, hx⟩ := HST.out hlw
                  rw [← hci] at hcn hx
                  have HCN := Lib.hid hcn
                  have HNEW := Lib.hid (sinv_new hsi (lF_nodup HND.out w0) hx)
                  have HNEXT0 : Hid (∀ k, k ≤ i → (∀ y ∈ S.drop k, x < y) → (∀ y ∈ S.take k, y < x) → SInv (lF (nds xs) w0) (i + 1) (S.take k ++ x :: S.drop k)) := fun k => sinv_next hsi hx
                  have HSLN : Hid (S.length = i) := hsi.2.1
                  have HSORT := Lib.hid hsi.1
                  have HSTL : Hid (∀ y ∈ S, y.length ≤ maxLen) := fun y hy => HNMS.out y (lF_mem.1 (List.mem_of_mem_take ((hsi.2.2 y).1 hy))).1
                  have hupi : ∀ y ∈ S.drop i, x < y := by rw [List.drop_of_length_le (by rw [HSLN.out]; omega)]; simp
                  have HUPI := Lib.hid hupi
                  have HC3 : Hid (i ≤ c3) := (by obtain ⟨A9, c9, e9, h9, _⟩ := own_reads hown; injection e9 with _ _ e9; show i ≤ c3; omega)
                  clear hx hsi hown hb hupi hlw hci hcn HSK HST
                  go_wp2
                  go_loopw [15] (fun v15 wr => ∃ k : Nat, k ≤ i ∧ v15 = .int .i64 (k : Int) ∧ (∀ y ∈ S.drop k, x < y) ∧ wr.heap = wI.heap ∧ Below wS.heap.size wS wr) (fun v15 _ => (intOf v15).toNat)
                  case atStart => exact ⟨i, by omega, rfl, HUPI.out, rfl, HB3.out⟩
                  case round =>
                    obtain ⟨k, hk, rfl, hup, hhe, hb⟩ := hrel
                    have HUP := Lib.hid hup
                    have HB5 := Lib.hid hb
                    have HHE := Lib.hid hhe
                    have HOW5 := Lib.hid (own_heap HOW.out (fun g _ => by rw [hhe]) : wr.ownsRow wS.heap.size 9 1 (.slice (some ad3) i c3) i (S.map tsv))
                    have b0 := HCELL.out wr hb
                    clear hup hhe hb k0 c6t
                    rcases Nat.eq_zero_or_pos k with hk0 | hk0
                    · have hkn : ¬ 0 < k := by omega
                      have HNX := Lib.hid (HNEXT0.out k hk HUP.out (by rw [hk0]; simp))
                      clear hk0
                      go_wp2
                      go_quiet (fail)
                      generalize hwD : wr.drewN _ = wD
                      have HHD : Hid (wD.heap = wI.heap) := by show _ = _; rw [← hwD]; exact HHE.out
                      have HBD : Hid (Below wS.heap.size wS wD) := by show Below _ _ _; rw [← hwD]; exact HB5.out.trans (below_drewN _ _ _)
                      have howd : wD.ownsRow wS.heap.size 9 1 (.slice (some ad3) i c3) i (S.map tsv) := own_heap HOW.out (fun g _ => by rw [HHD.out])
                      have HOWD := Lib.hid howd
                      clear hwD
                      obtain ⟨P, p, m, hP, hp, hm⟩ : ∃ (P : Addr) (p m : Nat), P = (if c3 = k then ad3 else ad3.add k) ∧ p = i - k ∧ m = c3 - k := ⟨_, _, _, rfl, rfl, rfl⟩
                      have hc3 := HC3.out
                      have hk0' : (0 : Int) ≤ (k : Int) := by omega
                      have hk1' : (k : Int) ≤ (i : Int) := by omega
                      have hk2' : (k : Int) ≤ (c3 : Int) := by omega
                      have HSL1 : Hid (∀ W : World, (Instr.sliceAt 33 (.slice (some ad3) i c3) (some (.int .i64 (k : Int))) none none).run Try.prog W = .ok (.slice (some P) p m) W) := fun W => by
                        rw [hP, hp, hm]
                        go_simp
                        split <;> rfl
                      have HSL2 : Hid (∀ W : World, (Instr.sliceAt 33 (.slice (some ad3) i c3) none (some (.int .i64 (k : Int))) none).run Try.prog W = .ok (.slice (some ad3) k c3) W) := fun W => by
                        go_simp
                      have hcut := (Reads.of_own howd).cut (k := k) (cap := c3) hk hc3
                      have e1 : (if c3 = k then some ad3 else (some ad3 : Option Addr).map (·.add (k * 1))) = some P := by rw [hP, Nat.mul_one]; split <;> rfl
                      rw [e1, Nat.mul_one, ← List.map_drop, ← hp] at hcut
                      have HCUT : Hid (Reads wD wD.heap.size 1 (some P) p ((S.drop k).map tsv)) := hcut
                      have HPK : Hid (p = i - k) := hp
                      have HE2 := Lib.hid (own_empty wD 9)
                      have HSUM : Hid (k + 1 + p = i + 1) := by show _ = _; omega
                      have hpq : p ≤ 1000 := by omega
                      have HI1 : Hid (t < n) := HTN.out
                      have HTK : Hid (((S.map tsv).take (k * 1)) = (S.take k).map tsv) := by show _ = _; rw [Nat.mul_one, List.map_take]
                      have HLST : Hid (((S.take k).map tsv ++ [.string (tx x)]) ++ (S.drop k).map tsv = (S.take k ++ x :: S.drop k).map tsv) := by show _ = _; rw [List.map_append, List.map_cons, List.append_assoc]; rfl
                      have hsl1 := HSL1.out
                      have hkI : k ≤ i := hk
                      clear howd hP hp hm hcut e1
                      go_wp2_with (at_builtin; refine wpList_append_reads _ rfl (.tmp 122) (.tmp 125) 33 rfl wD.heap.size 9 ii (.string { data := #[] }) 16 Try.underlying33 hu0 hz0 hz1 hz2 rfl _ 0 [] rfl HE2.out (some P) p m wD.heap.size ((S.drop k).map tsv) rfl (by intro h; cases h) (HCUT.out.alloc (Nat.le_refl _) _) (by intro u hu; obtain ⟨y, _, rfl⟩ := List.mem_map.1 hu; rfl) (by unfold maxLen; omega) (by omega) (by simp) ?_; intro v4 w4 ho4 hg4; rw [Nat.zero_add, List.nil_append] at ho4; have HRS4 := Lib.hid ho4; have HG4 := Lib.hid hg4; obtain ⟨A4, c4, rfl, hA4⟩ := own_slice ho4; have HA4 := Lib.hid hA4; clear ho4 hg4 hA4)
                      have hal4 : Below wD.heap.size wD (wD.alloc (.cells #[] 9)) := (Below.refl _ _).alloc (Nat.le_refl _) _
                      have hlt4 := own_lt HOWD.out
                      have ho4 : w4.ownsRow wS.heap.size 9 1 (.slice (some ad3) i c3) i (S.map tsv) := (own_below HOWD.out hal4).kept HG4.out (.inr (fun e => Nat.lt_irrefl _ (hlt4 wD.heap.size e)))
                      have hb4 : Below wS.heap.size wS w4 := (HBD.out.trans (hal4.mono HBD.out.size)).grown HG4.out (Nat.le_trans HBD.out.size hal4.size) (fun j hj => by cases hj; exact HBD.out.size)
                      have HB4 := Lib.hid hb4
                      have hot := (own_trunc ho4 hkI).alloc (.cells #[.string (tx x)] 9)
                      rw [HTK.out] at hot
                      have HOT : Hid ((w4.drew.alloc (.cells #[.string (tx x)] 9)).ownsRow wS.heap.size 9 1 (.slice (some ad3) k c3) k ((S.take k).map tsv)) := hot
                      have HRS : Hid ((w4.drew.alloc (.cells #[.string (tx x)] 9)).ownsRow wD.heap.size 9 1 (.slice A4 p c4) p ((S.drop k).map tsv)) := HRS4.out.alloc _
                      have HAPT : Hid (Apart (.slice (some ad3) k c3) (.slice A4 p c4)) := fun g h1 h2 => by
                        have h3 := own_block HRS4.out g h2
                        have h4 := own_lt (own_trunc HOWD.out hkI) g h1
                        omega
                      clear hal4 hlt4 ho4 hb4 hot hsl1
                      have HSD : Hid (Below wS.heap.size wS w4.drew) := HB4.out.drew
                      refine wp_region_held (S := fun v => Below wS.heap.size wS v) (by kernel_rfl) ?_
                      refine h_take 0 (.slice (some ad3) i c3) rfl (by kernel_rfl) (by kernel_rfl) (by kernel_rfl) (fun _ _ _ h => h) (by kernel_rfl) HSD.out (fun _ _ => by kernel_rfl) ?_
                      refine h_take 1 (.int .i64 (k : Int)) rfl (by kernel_rfl) (by kernel_rfl) (by kernel_rfl) (fun _ _ _ h => h) (by kernel_rfl) HSD.out (fun _ _ => by kernel_rfl) ?_
                      refine h_take 2 (.slice (some ad3) k c3) rfl (by kernel_rfl) (by kernel_rfl) (by kernel_rfl) (fun _ _ _ h => h) (by kernel_rfl) HSD.out (fun W _ => by have hs2 := HSL2.out W; go_simp) ?_
                      refine h_take 3 (.slice (some ad5) n c) rfl (by kernel_rfl) (by kernel_rfl) (by kernel_rfl) (fun _ _ _ h => h) (by kernel_rfl) HSD.out (fun _ _ => by kernel_rfl) ?_
                      refine h_take 4 (.int .i64 (t : Int)) rfl (by kernel_rfl) (by kernel_rfl) (by kernel_rfl) (fun _ _ _ h => h) (by kernel_rfl) HSD.out (fun _ _ => by kernel_rfl) ?_
                      refine h_take 5 (.pointer (some (ad5.add (t * 4)))) rfl (by kernel_rfl) (by kernel_rfl) (by kernel_rfl) (fun _ _ _ h => h) (by kernel_rfl) HSD.out (by intro v hv; go_simp) ?_
                      refine h_take 6 (.pointer (some (ad5.add (t * 4)))) rfl (by kernel_rfl) (by kernel_rfl) (by kernel_rfl) (fun _ _ _ h => h) (by kernel_rfl) HSD.out (by intro v hv; go_simp) ?_
                      refine h_take 7 (.string (tx x)) rfl (by kernel_rfl) (by kernel_rfl) (by kernel_rfl) (fun _ _ _ h => h) (by kernel_rfl) HSD.out (by intro v hv; have b0 := HCELL.out v hv; go_simp) ?_
                      refine h_take 10 (.slice A4 p c4) rfl (by kernel_rfl) (by kernel_rfl) (by kernel_rfl) (fun _ _ _ h => h) (by kernel_rfl) HSD.out (fun _ _ => by kernel_rfl) ?_
                      refine h_one 8 rfl (by kernel_rfl) (by kernel_rfl) (fun K hK => ?_)
                      go_simp
                      have HAL : Hid (Below wS.heap.size wS (w4.drew.alloc (.cells #[.string (tx x)] 9))) := HSD.out.alloc HSD.out.size _
                      refine hK _ _ HAL.out ?_
                      clear hK K
                      refine h_one 9 rfl (by kernel_rfl) (by kernel_rfl) (fun K hK => ?_)
                      refine wp_append_many (.tmp 129) (.tmp 135) 33 rfl wS.heap.size 9 ii _ 1 16 Try.underlying33 hu0 hz0 hz1 hz2 rfl (by decide) (.slice (some ad3) k c3) k _ rfl HOT.out (some ⟨w4.heap.size, 0, none⟩) 1 1 (w4.heap.size + 1) [.string (tx x)] rfl (by intro h; cases h) (reads_one_row w4.drew 9 _) (by intro u hu; simp at hu; subst hu; rfl) (by unfold maxLen; omega) (by omega) HAL.out.size ?_
                      intro v5 w5 ho5 hg5 _
                      have HO5 := Lib.hid ho5
                      have HRS5 := Lib.hid (own_kept HRS.out HAPT.out hg5)
                      have HB5 : Hid (Below wS.heap.size wS w5) := HAL.out.grown hg5 HAL.out.size (fun j hj => own_block HOT.out j hj)
                      have HRD5 := Lib.hid (Reads.of_own HRS5.out)
                      refine hK _ _ HB5.out ?_
                      clear hK K ho5 hg5
                      refine h_one 11 rfl (by kernel_rfl) (by kernel_rfl) (fun K hK => ?_)
                      refine wp_append_many (.tmp 136) (.tmp 137) 33 rfl wS.heap.size 9 ii _ 1 16 Try.underlying33 hu0 hz0 hz1 hz2 rfl (by decide) v5 (k + 1) _ rfl HO5.out A4 p c4 w5.heap.size _ rfl HA4.out HRD5.out (by intro u hu; obtain ⟨y, _, rfl⟩ := List.mem_map.1 hu; rfl) (by unfold maxLen; omega) (by omega) HB5.out.size ?_
                      intro v6 w6 ho6 hg6 _
                      rw [HSUM.out, HLST.out] at ho6
                      obtain ⟨g6, c6, rfl⟩ := own_succ ho6
                      have HO6 := Lib.hid ho6
                      have HB6 : Hid (Below wS.heap.size wS w6) := HB5.out.grown hg6 HB5.out.size (fun j hj => own_block HO5.out j hj)
                      refine hK _ _ HB6.out ?_
                      clear hK K ho6 hg6
                      refine h_take 12 (.slice (some ⟨g6, 0, none⟩) (i + 1) c6) rfl (by kernel_rfl) (by kernel_rfl) (by kernel_rfl) (fun _ _ _ h => h) (by kernel_rfl) HB6.out (fun _ _ => by kernel_rfl) ?_
                      refine wpAnyH_done (by kernel_rfl) ?_ _
                      go_simp
                      go_wp2
                      exact ⟨⟨t + 1, i + 1, S.take k ++ x :: S.drop k, ⟨g6, 0, none⟩, c6, by have := HI1.out; omega, HCN.out.symm, by go_num, rfl, HNX.out, HO6.out, HB6.out⟩, by have := HI1.out; simp [intOf]; omega⟩
                    · obtain ⟨j, hj⟩ : ∃ j, k = j + 1 := ⟨k - 1, by omega⟩
                      obtain ⟨y, hy⟩ : ∃ y, S[j]? = some y := ⟨_, List.getElem?_eq_getElem (by rw [HSLN.out]; omega)⟩
                      have hyS := List.mem_of_getElem? hy
                      obtain ⟨ad4, sv4, e4, _, h6, h7⟩ := (Reads.of_own HOW5.out).at_ (k := j) (by omega)
                      obtain rfl : ad3 = ad4 := Option.some.inj e4
                      obtain rfl : sv4 = tsv y := by rw [List.getElem?_map, hy] at h6; simpa using h6.symm
                      unfold tsv at h7
                      have hj1 : (k : Int) - 1 = (j : Int) := by omega
                      have hj2 : (0 : Int) ≤ (j : Int) := by omega
                      have hj3 : (j : Int) < (i : Int) := by omega
                      have HLS := Lib.hid (fun (W : World) => less_any x y HXL.out (HSTL.out y hyS) W)
                      unfold rsv at HLS
                      have HY := Lib.hid hy
                      have HKJ : Hid (k = j + 1) := hj
                      by_cases hlt2 : x < y
                      · rw [decide_eq_true hlt2] at HLS
                        have HUP2 := Lib.hid (drop_up HY.out hlt2 (by rw [← HKJ.out]; exact HUP.out))
                        clear hlt2 hy hyS e4 h6 hj
                        go_wp2
                        go_quiet ((go_at_call 15; exact Calls.quiet_of (HLS.out _)))
                        go_wp2
                        exact ⟨⟨j, by have := HKJ.out; omega, by go_num, HUP2.out, HHE.out, HB5.out.trans (below_drewN _ _ _)⟩, by have := HKJ.out; simp [intOf]; omega⟩
                      · rw [decide_eq_false hlt2] at HLS
                        have hyx : y < x := by
                          rcases lx_tri x y with h | h | h
                          · exact absurd h hlt2
                          · exact absurd (by rw [h]; exact hyS) HNEW.out
                          · exact h
                        have HNX := Lib.hid (HNEXT0.out k hk HUP.out (by rw [HKJ.out]; exact take_low HSORT.out HY.out hyx))
                        clear hlt2 hy hyS e4 h6 hj hyx
                        go_wp2
                        go_quiet ((go_at_call 15; exact Calls.quiet_of (HLS.out _)))
                        generalize hwD : wr.drewN _ = wD
                        have HHD : Hid (wD.heap = wI.heap) := by show _ = _; rw [← hwD]; exact HHE.out
                        have HBD : Hid (Below wS.heap.size wS wD) := by show Below _ _ _; rw [← hwD]; exact HB5.out.trans (below_drewN _ _ _)
                        have howd : wD.ownsRow wS.heap.size 9 1 (.slice (some ad3) i c3) i (S.map tsv) := own_heap HOW.out (fun g _ => by rw [HHD.out])
                        have HOWD := Lib.hid howd
                        clear hwD
                        obtain ⟨P, p, m, hP, hp, hm⟩ : ∃ (P : Addr) (p m : Nat), P = (if c3 = k then ad3 else ad3.add k) ∧ p = i - k ∧ m = c3 - k := ⟨_, _, _, rfl, rfl, rfl⟩
                        have hc3 := HC3.out
                        have hk0' : (0 : Int) ≤ (k : Int) := by omega
                        have hk1' : (k : Int) ≤ (i : Int) := by omega
                        have hk2' : (k : Int) ≤ (c3 : Int) := by omega
                        have HSL1 : Hid (∀ W : World, (Instr.sliceAt 33 (.slice (some ad3) i c3) (some (.int .i64 (k : Int))) none none).run Try.prog W = .ok (.slice (some P) p m) W) := fun W => by
                          rw [hP, hp, hm]
                          go_simp
                          split <;> rfl
                        have HSL2 : Hid (∀ W : World, (Instr.sliceAt 33 (.slice (some ad3) i c3) none (some (.int .i64 (k : Int))) none).run Try.prog W = .ok (.slice (some ad3) k c3) W) := fun W => by
                          go_simp
                        have hcut := (Reads.of_own howd).cut (k := k) (cap := c3) hk hc3
                        have e1 : (if c3 = k then some ad3 else (some ad3 : Option Addr).map (·.add (k * 1))) = some P := by rw [hP, Nat.mul_one]; split <;> rfl
                        rw [e1, Nat.mul_one, ← List.map_drop, ← hp] at hcut
                        have HCUT : Hid (Reads wD wD.heap.size 1 (some P) p ((S.drop k).map tsv)) := hcut
                        have HPK : Hid (p = i - k) := hp
                        have HE2 := Lib.hid (own_empty wD 9)
                        have HSUM : Hid (k + 1 + p = i + 1) := by show _ = _; omega
                        have hpq : p ≤ 1000 := by omega
                        have HI1 : Hid (t < n) := HTN.out
                        have HTK : Hid (((S.map tsv).take (k * 1)) = (S.take k).map tsv) := by show _ = _; rw [Nat.mul_one, List.map_take]
                        have HLST : Hid (((S.take k).map tsv ++ [.string (tx x)]) ++ (S.drop k).map tsv = (S.take k ++ x :: S.drop k).map tsv) := by show _ = _; rw [List.map_append, List.map_cons, List.append_assoc]; rfl
                        have hsl1 := HSL1.out
                        have hkI : k ≤ i := hk
                        clear howd hP hp hm hcut e1
                        go_wp2_with (at_builtin; refine wpList_append_reads _ rfl (.tmp 122) (.tmp 125) 33 rfl wD.heap.size 9 ii (.string { data := #[] }) 16 Try.underlying33 hu0 hz0 hz1 hz2 rfl _ 0 [] rfl HE2.out (some P) p m wD.heap.size ((S.drop k).map tsv) rfl (by intro h; cases h) (HCUT.out.alloc (Nat.le_refl _) _) (by intro u hu; obtain ⟨y, _, rfl⟩ := List.mem_map.1 hu; rfl) (by unfold maxLen; omega) (by omega) (by simp) ?_; intro v4 w4 ho4 hg4; rw [Nat.zero_add, List.nil_append] at ho4; have HRS4 := Lib.hid ho4; have HG4 := Lib.hid hg4; obtain ⟨A4, c4, rfl, hA4⟩ := own_slice ho4; have HA4 := Lib.hid hA4; clear ho4 hg4 hA4)
                        have hal4 : Below wD.heap.size wD (wD.alloc (.cells #[] 9)) := (Below.refl _ _).alloc (Nat.le_refl _) _
                        have hlt4 := own_lt HOWD.out
                        have ho4 : w4.ownsRow wS.heap.size 9 1 (.slice (some ad3) i c3) i (S.map tsv) := (own_below HOWD.out hal4).kept HG4.out (.inr (fun e => Nat.lt_irrefl _ (hlt4 wD.heap.size e)))
                        have hb4 : Below wS.heap.size wS w4 := (HBD.out.trans (hal4.mono HBD.out.size)).grown HG4.out (Nat.le_trans HBD.out.size hal4.size) (fun j hj => by cases hj; exact HBD.out.size)
                        have HB4 := Lib.hid hb4
                        have hot := (own_trunc ho4 hkI).alloc (.cells #[.string (tx x)] 9)
                        rw [HTK.out] at hot
                        have HOT : Hid ((w4.drew.alloc (.cells #[.string (tx x)] 9)).ownsRow wS.heap.size 9 1 (.slice (some ad3) k c3) k ((S.take k).map tsv)) := hot
                        have HRS : Hid ((w4.drew.alloc (.cells #[.string (tx x)] 9)).ownsRow wD.heap.size 9 1 (.slice A4 p c4) p ((S.drop k).map tsv)) := HRS4.out.alloc _
                        have HAPT : Hid (Apart (.slice (some ad3) k c3) (.slice A4 p c4)) := fun g h1 h2 => by
                          have h3 := own_block HRS4.out g h2
                          have h4 := own_lt (own_trunc HOWD.out hkI) g h1
                          omega
                        clear hal4 hlt4 ho4 hb4 hot hsl1
                        have HSD : Hid (Below wS.heap.size wS w4.drew) := HB4.out.drew
                        refine wp_region_held (S := fun v => Below wS.heap.size wS v) (by kernel_rfl) ?_
                        refine h_take 0 (.slice (some ad3) i c3) rfl (by kernel_rfl) (by kernel_rfl) (by kernel_rfl) (fun _ _ _ h => h) (by kernel_rfl) HSD.out (fun _ _ => by kernel_rfl) ?_
                        refine h_take 1 (.int .i64 (k : Int)) rfl (by kernel_rfl) (by kernel_rfl) (by kernel_rfl) (fun _ _ _ h => h) (by kernel_rfl) HSD.out (fun _ _ => by kernel_rfl) ?_
                        refine h_take 2 (.slice (some ad3) k c3) rfl (by kernel_rfl) (by kernel_rfl) (by kernel_rfl) (fun _ _ _ h => h) (by kernel_rfl) HSD.out (fun W _ => by have hs2 := HSL2.out W; go_simp) ?_
                        refine h_take 3 (.slice (some ad5) n c) rfl (by kernel_rfl) (by kernel_rfl) (by kernel_rfl) (fun _ _ _ h => h) (by kernel_rfl) HSD.out (fun _ _ => by kernel_rfl) ?_
                        refine h_take 4 (.int .i64 (t : Int)) rfl (by kernel_rfl) (by kernel_rfl) (by kernel_rfl) (fun _ _ _ h => h) (by kernel_rfl) HSD.out (fun _ _ => by kernel_rfl) ?_
                        refine h_take 5 (.pointer (some (ad5.add (t * 4)))) rfl (by kernel_rfl) (by kernel_rfl) (by kernel_rfl) (fun _ _ _ h => h) (by kernel_rfl) HSD.out (by intro v hv; go_simp) ?_
                        refine h_take 6 (.pointer (some (ad5.add (t * 4)))) rfl (by kernel_rfl) (by kernel_rfl) (by kernel_rfl) (fun _ _ _ h => h) (by kernel_rfl) HSD.out (by intro v hv; go_simp) ?_
                        refine h_take 7 (.string (tx x)) rfl (by kernel_rfl) (by kernel_rfl) (by kernel_rfl) (fun _ _ _ h => h) (by kernel_rfl) HSD.out (by intro v hv; have b0 := HCELL.out v hv; go_simp) ?_
                        refine h_take 10 (.slice A4 p c4) rfl (by kernel_rfl) (by kernel_rfl) (by kernel_rfl) (fun _ _ _ h => h) (by kernel_rfl) HSD.out (fun _ _ => by kernel_rfl) ?_
                        refine h_one 8 rfl (by kernel_rfl) (by kernel_rfl) (fun K hK => ?_)
                        go_simp
                        have HAL : Hid (Below wS.heap.size wS (w4.drew.alloc (.cells #[.string (tx x)] 9))) := HSD.out.alloc HSD.out.size _
                        refine hK _ _ HAL.out ?_
                        clear hK K
                        refine h_one 9 rfl (by kernel_rfl) (by kernel_rfl) (fun K hK => ?_)
                        refine wp_append_many (.tmp 129) (.tmp 135) 33 rfl wS.heap.size 9 ii _ 1 16 Try.underlying33 hu0 hz0 hz1 hz2 rfl (by decide) (.slice (some ad3) k c3) k _ rfl HOT.out (some ⟨w4.heap.size, 0, none⟩) 1 1 (w4.heap.size + 1) [.string (tx x)] rfl (by intro h; cases h) (reads_one_row w4.drew 9 _) (by intro u hu; simp at hu; subst hu; rfl) (by unfold maxLen; omega) (by omega) HAL.out.size ?_
                        intro v5 w5 ho5 hg5 _
                        have HO5 := Lib.hid ho5
                        have HRS5 := Lib.hid (own_kept HRS.out HAPT.out hg5)
                        have HB5 : Hid (Below wS.heap.size wS w5) := HAL.out.grown hg5 HAL.out.size (fun j hj => own_block HOT.out j hj)
                        have HRD5 := Lib.hid (Reads.of_own HRS5.out)
                        refine hK _ _ HB5.out ?_
                        clear hK K ho5 hg5
                        refine h_one 11 rfl (by kernel_rfl) (by kernel_rfl) (fun K hK => ?_)
                        refine wp_append_many (.tmp 136) (.tmp 137) 33 rfl wS.heap.size 9 ii _ 1 16 Try.underlying33 hu0 hz0 hz1 hz2 rfl (by decide) v5 (k + 1) _ rfl HO5.out A4 p c4 w5.heap.size _ rfl HA4.out HRD5.out (by intro u hu; obtain ⟨y, _, rfl⟩ := List.mem_map.1 hu; rfl) (by unfold maxLen; omega) (by omega) HB5.out.size ?_
                        intro v6 w6 ho6 hg6 _
                        rw [HSUM.out, HLST.out] at ho6
                        obtain ⟨g6, c6, rfl⟩ := own_succ ho6
                        have HO6 := Lib.hid ho6
                        have HB6 : Hid (Below wS.heap.size wS w6) := HB5.out.grown hg6 HB5.out.size (fun j hj => own_block HO5.out j hj)
                        refine hK _ _ HB6.out ?_
                        clear hK K ho6 hg6
                        refine h_take 12 (.slice (some ⟨g6, 0, none⟩) (i + 1) c6) rfl (by kernel_rfl) (by kernel_rfl) (by kernel_rfl) (fun _ _ _ h => h) (by kernel_rfl) HB6.out (fun _ _ => by kernel_rfl) ?_
                        refine wpAnyH_done (by kernel_rfl) ?_ _
                        go_simp
                        go_wp2
                        exact ⟨⟨t + 1, i + 1, S.take k ++ x :: S.drop k, ⟨g6, 0, none⟩, c6, by have := HI1.out; omega, HCN.out.symm, by go_num, rfl, HNX.out, HO6.out, HB6.out⟩, by have := HI1.out; simp [intOf]; omega⟩
                · have HCN := Lib.hid ((HSK.out hlw).trans hci.symm)
                  obtain ⟨lv, hlvx⟩ : ∃ lv, lv = lev (nds xs) x := ⟨_, rfl⟩
                  rw [← hlvx] at c6t hlw
                  have hne : ((lv : Int) != (w0 : Int)) = true := by rw [bne_iff_ne]; omega
                  have hnf : ((lv : Int) == (w0 : Int)) = false := by rw [beq_eq_false_iff_ne]; omega
                  clear hsi hown hb hci hlw hlvx HSK HST
                  go_wp2
                  exact ⟨⟨t + 1, i, S, ad3, c3, HTN.out, HCN.out.symm, by go_num, rfl, HSI.out, HOW.out, HB3.out⟩, by have := HTN.out; simp [intOf]; omega⟩
              · obtain rfl : t = n := by omega
                have hS := HWD.out w0 S (by rw [← hci]; exact hsi)
                have hSl : S.length = i := hsi.2.1
                have HRRr := Lib.hid (HRR.out.below hb)
                have HV6r := Lib.hid (own_below HV6.out hb)
                have HBr := Lib.hid (HB.out.trans (hb.mono HB.out.size))
                rcases Nat.eq_zero_or_pos i with hi0 | hi0
                · have hwN : w0 = wvN (nds xs) t := by
                    rcases Nat.lt_or_ge w0 (wvN (nds xs) t) with h | h
                    · exact absurd (by rw [← hS]; exact List.length_eq_zero_iff.1 (by omega)) (HWS.out w0 h)
                    · have := HW0.out; omega
                  have hall : (wavesOf (nds xs)).take w0 = wavesOf (nds xs) := List.take_of_length_le (by rw [HWL.out]; omega)
                  rw [hall] at HRRr
                  have hie : ((i : Int) == 0) = true := by rw [hi0]; rfl
                  clear hsi hown hb hci hS hSl hwN hall hi0 hlt ht hit hin
                  go_wp2
                  go_ret2
                  exact ⟨⟨_, vs, rfl, HRRr.out⟩, HBr.out⟩
                · have hwN : w0 < wvN (nds xs) t := by
                    rcases Nat.lt_or_ge w0 (wvN (nds xs) t) with h | h
                    · exact h
                    · have h2 := HWZ.out w0 h
                      rw [← hS] at h2
                      rw [h2] at hSl
                      simp at hSl
                      omega
                  have HWN0 := Lib.hid hwN
                  have HTK := Lib.hid (HWT.out w0 hwN)
                  rw [← hS] at HTK
                  have hie : ((i : Int) == 0) = false := by rw [beq_eq_false_iff_ne]; omega
                  have HSL2 : Hid (S.length = i) := hSl
                  have hro := HRRr.out.1
                  rw [HLEN.out] at hro
                  have HRO := Lib.hid hro
                  have hal : Below wI.heap.size wI (wI.alloc (.cells #[.slice (some ad3) i c3] 33)) := (Below.refl _ _).alloc (Nat.le_refl _) _
                  have HAL := Lib.hid hal
                  have HRW := Lib.hid (reads_one_row wI 33 (.slice (some ad3) i c3))
                  have HX8 := Lib.hid (own_less (own_below hown hal) HB.out.size)
                  have HAPX : Hid (∀ (k : Nat) (y : Value), vs[k]? = some y → Apart (.slice (some ad3) i c3) y) := fun k y hy g h1 h2 => by
                    obtain ⟨_, _, ho⟩ := HRR.out.2.1 k y hy
                    have h3 := own_lt ho g h2
                    have h4 := own_block hown g h1
                    omega
                  clear hsi hown hb hci hS hSl hwN hi0 hlt ht hit hro hal
                  go_wp2_with (at_builtin; refine wpList_append_many _ rfl (.tmp 143) (.tmp 145) 25 rfl w.heap.size 33 i2 _ 1 24 Try.underlying25 r0 r1 r2 r3 rfl (by decide) (.slice A4o w0 c4o) w0 _ rfl (HRO.out.alloc _) (some ⟨wI.heap.size, 0, none⟩) 1 1 (wI.heap.size + 1) [.slice (some ad3) i c3] rfl (by intro h; cases h) HRW.out (by intro u hu; simp at hu; subst hu; rfl) (by unfold maxLen; omega) (by omega) (by have := HBr.out.size; have := HAL.out.size; omega) ?_; intro v5 w5 ho5 hg5; have HO5 := Lib.hid ho5; have HG5 := Lib.hid hg5; clear ho5 hg5)
                  have hadd := rr_add (HRRr.out.below HAL.out) (x := .slice (some ad3) i c3) (r := S) (by rw [HSL2.out]; exact HX8.out) HAPX.out HG5.out (by rw [HLEN.out]; exact HO5.out)
                  rw [HTK.out] at hadd
                  exact ⟨⟨w0 + 1, _, HWN0.out, by go_num, hadd, own_kept (own_below HV6r.out HAL.out) (own_apart HRO.out HV6r.out (by decide)) HG5.out, (HBr.out.trans (HAL.out.mono HBr.out.size)).grown HG5.out (Nat.le_trans HBr.out.size HAL.out.size) (fun x hx => own_block HRO.out x hx)⟩, by have h1 := HWN0.out; have h2 := HWNN.out; simp [intOf]; omega⟩

end Go.Proofs.Ytcfmpajdhbcimaa
