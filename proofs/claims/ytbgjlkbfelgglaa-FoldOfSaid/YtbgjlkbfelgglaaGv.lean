/- FoldOf. -/
import Derived.BigQuiet
import Derived.Deep.QuietTactic
import Derived.Test.YtbgjlkbfelgglaaGv0
namespace Go.Proofs.Ytbgjlkbfelgglaa
open Go.RowKit

set_option maxRecDepth 100000 in
set_option maxHeartbeats 4000000 in
theorem foldof_any (A : Option Addr) (n c : Nat) (xs : List Rw) (rr : Rc) (Ar : Option Addr) (nr cr : Nat) (lr : List Dp) (hn : n ≤ maxLen) (hac : A = none → c = 0) (hf : ∀ x ∈ xs, Fits x.r x.l ∧ x.n ≤ maxLen) (hnr : nr ≤ maxLen) (har : Ar = none → cr = 0) (hfr : Fits rr lr) (w : World) (h : Recs w w.heap.size A n xs) (hr : Reads w w.heap.size 3 Ar nr (dps lr)) :
    Calls Try.prog 3 #[.slice A n c, rcv rr Ar nr cr] w fun e w' => e = .returned (.bool true) ∧ Below w.heap.size w w' := by
  have HFX : Hid (∀ W, Calls Try.prog 9 #[] W fun e w' => e = .returned (.bool true) ∧ Below W.heap.size W w') := ffixed_any
  have rd : ∀ W, Below w.heap.size w W → Recs W W.heap.size A n xs := fun W hb => (h.below hb).more hb.size
  have RD := Lib.hid rd
  have HG := Lib.hid (fun W hb => greats_any A n c xs hn hf W (rd W hb))
  have HXR : Hid (∀ W, Below w.heap.size w W → Reads W W.heap.size 3 Ar nr (dps lr) ∧ (Ar = none → cr = 0)) := (fun W hb => ⟨(hr.below hb).more hb.size, har⟩)
  have HG2 := Lib.hid (fun W hb => great_says rr Ar nr cr lr W hnr hfr.2.2 hfr.1 hfr.2.1 (HXR.out W hb).1)
  have HFR := Lib.hid hfr
  obtain ⟨kd, t, u, o, m0, g⟩ := rr
  unfold rcv rsv at HG2
  unfold rcv rsv
  have hb0 := (Below.refl w.heap.size w).alloc (Nat.le_refl _) (.cells #[.int .i64 kd, .string (tx t), .int .u64 u, .slice Ar nr cr, .int .u64 o, .int .u64 m0, .string (tx g)] 26)
  have HBOX0 := Lib.hid (one_new w (.cells #[.int .i64 kd, .string (tx t), .int .u64 u, .slice Ar nr cr, .int .u64 o, .int .u64 m0, .string (tx g)] 26))
  have HB0 := Lib.hid hb0
  have HSB : Hid (w.heap.size < (w.alloc (.cells #[.int .i64 kd, .string (tx t), .int .u64 u, .slice Ar nr cr, .int .u64 o, .int .u64 m0, .string (tx g)] 26)).heap.size) := (by show _ < _; simp)
  clear hb0
  by_cases sm : smalls xs
  · have SM := Lib.hid sm
    by_cases sr : small (⟨kd, t, u, o, m0, g⟩ : Rc) lr
    · have SR := Lib.hid sr
      have hl : xs.length = n := h.len
      have h30 : n ≤ 30 := by rw [← hl]; exact sm.2
      have hk : Ok60 xs := fun x hx => ⟨(hf x hx).1.1, (sm.1 x hx).2.1⟩
      have hlr : lr.length = nr := by have := hr.1; rw [dps_len] at this; omega
      have HO := Lib.hid (fun W hb => fof60 A n c xs (by omega) hk W (rd W hb))
      have HK := Lib.hid hk
      have HN := Lib.hid h30
      have HL := Lib.hid hl
      have HSZ := Lib.hid (hk.sizes h)
      have HXZ : Hid ((⟨⟨kd, t, u, o, m0, g⟩, Ar, nr, cr, lr⟩ : Rw).t.length ≤ maxLen ∧ (⟨⟨kd, t, u, o, m0, g⟩, Ar, nr, cr, lr⟩ : Rw).n ≤ 1000000) := ⟨hfr.1, by have := sr.2.1; show nr ≤ _; omega⟩
      have HTL : Hid (∀ x ∈ xs ++ [(⟨⟨kd, t, u, o, m0, g⟩, Ar, nr, cr, lr⟩ : Rw)], x.t.length ≤ maxLen) := fun x hx => by
        rcases List.mem_append.1 hx with hx | hx
        · exact (HSZ.out x hx).1
        · obtain rfl := List.mem_singleton.1 hx
          exact hfr.1
      have HSP : Hid (∀ ps : List Rw, ps.map Rw.say = (fo Rw.k Rw.t (xs ++ [(⟨⟨kd, t, u, o, m0, g⟩, Ar, nr, cr, lr⟩ : Rw)])).map Rw.say → ∀ (W : World) (B : Nat) (A : Option Addr) (n : Nat), Recs W B A n ps → ∀ x ∈ ps, x.n ≤ 1000000) := fun ps hps W B A n hr x hx =>
        ((Ok60.says hps (Ok60.fo (hk.app (fun z hz => by obtain rfl := List.mem_singleton.1 hz; exact ⟨hfr.1, sr.2.1⟩)))).sizes hr x hx).2
      have HAC := Lib.hid hac
      have HL7 : Hid ((fo Rw.k Rw.t xs).length ≤ 40) := (by have := fo_len (k := Rw.k) (t := Rw.t) xs; show _ ≤ 40; omega)
      obtain ⟨ig, hig, hz0, hz1, hz2⟩ := info_parts grinfo
      have q0 := at_cell (i := 0) HBOX0.out rfl
      have q1 := at_cell (i := 1) HBOX0.out rfl
      have q2 := at_cell (i := 2) HBOX0.out rfl
      have q3 := at_cell (i := 3) HBOX0.out rfl
      have q4 := at_cell (i := 4) HBOX0.out rfl
      have q5 := at_cell (i := 5) HBOX0.out rfl
      have q6 := at_cell (i := 6) HBOX0.out rfl
      clear h hr hf rd sm sr hl h30 hk hlr hn hac hfr hnr har
      go_enter Try.func3, Try.ntmps3
      go_wp2_with (first
        | (go_at_call 8; refine (HG2.out _ HB2.out).mono ?_; rintro e w3 ⟨he, hb3⟩; obtain rfl := he.no (fun h => h SR.out); have HB3 := Lib.hid (HB2.out.trans (hb3.mono HB2.out.size)); have HBX3 := Lib.hid ((hb3.block w.heap.size HSB2.out).trans HBOX2.out); have HSB3 : Hid (w.heap.size < w3.heap.size) := (Nat.lt_of_lt_of_le HSB2.out hb3.size); clear hb3)
        | (go_at_call 7; refine (HG.out _ HB0.out).mono ?_; rintro e w2 ⟨he, hb2⟩; obtain rfl := he.no (fun h => h SM.out); have HB2 := Lib.hid (HB0.out.trans (hb2.mono HB0.out.size)); have HBOX2 := Lib.hid ((hb2.block w.heap.size HSB.out).trans HBOX0.out); have HSB2 : Hid (w.heap.size < w2.heap.size) := (Nat.lt_of_lt_of_le HSB.out hb2.size); have q0 := at_cell (i := 0) HBOX2.out rfl; have q1 := at_cell (i := 1) HBOX2.out rfl; have q2 := at_cell (i := 2) HBOX2.out rfl; have q3 := at_cell (i := 3) HBOX2.out rfl; have q4 := at_cell (i := 4) HBOX2.out rfl; have q5 := at_cell (i := 5) HBOX2.out rfl; have q6 := at_cell (i := 6) HBOX2.out rfl; clear hb2))
      refine (HO.out _ HB3.out).mono ?_
      rintro e w5 ⟨A5, n5, c5, zs, rfl, hn5, hz5, hk5, hst5, hb5⟩
      have HN5 : Hid (n5 ≤ 30) := (by have := HN.out; show n5 ≤ 30; omega)
      have HZ5 := Lib.hid hz5
      have HK5 := Lib.hid hk5
      have HB5 := Lib.hid (HB3.out.trans (hb5.mono HB3.out.size))
      have HR5 : Hid (∀ W, Below w5.heap.size w5 W → Recs W W.heap.size A5 n5 zs) := (fun W hb => ((state_recs hst5).below hb).more hb.size)
      have HST5 : Hid (StateIn w5 w.heap.size A5 n5 c5 zs) := hst5.less HB3.out.size
      have HBL : Hid (w.heap.size < w5.heap.size) := (Nat.lt_of_lt_of_le HSB3.out hb5.size)
      have HBOX := Lib.hid ((hb5.block w.heap.size HSB3.out).trans HBX3.out)
      clear hn5 hz5 hk5 hst5 hb5
      go_wp2_with fail
      obtain ⟨M, hM⟩ : ∃ M : Act → World → Prop, M = (fun a v => ∃ v1 v2 v3 v4 v7 v8 v9 v10 v11 v12 v13 v14 v15 v16 v17 v18 v19 v20 v21 v22 v23 v24 v25 v26 v27 v28 v29 v30 v31 v32 v33 v34 v35 v36 v37 v38 v39 v40 v41 : Value, a = ({ tmps := #[.slice A n c, v1, v2, v3, v4, .slice A5 n5 c5, .bool true, v7, v8, v9, v10, v11, v12, v13, v14, v15, v16, v17, v18, v19, v20, v21, v22, v23, v24, v25, v26, v27, v28, v29, v30, v31, v32, v33, v34, v35, v36, v37, v38, v39, v40, v41, undef, undef, undef, undef, undef, undef, undef, undef, undef, undef, undef, undef, undef, undef, undef, undef, undef, undef, undef, undef, undef, undef, undef, undef, undef, undef, undef, undef, undef, undef, undef, undef, undef, undef, undef, undef, undef, undef, undef], defers := [] } : Act) ∧ Below w5.heap.size w5 v) := ⟨_, rfl⟩
      have HM := Lib.hid hM
      clear hM
      refine wp_cut M ?_ ?_
      · intro a v hM
        rw [HM.out] at hM
        obtain ⟨v1, v2, v3, v4, v7, v8, v9, v10, v11, v12, v13, v14, v15, v16, v17, v18, v19, v20, v21, v22, v23, v24, v25, v26, v27, v28, v29, v30, v31, v32, v33, v34, v35, v36, v37, v38, v39, v40, v41, rfl, hb⟩ := hM
        have HBV := Lib.hid (HB5.out.trans (hb.mono HB5.out.size))
        have HMV := Lib.hid (MutS.of (HST5.out.below2 hb))
        have HLZ : Hid (zs.length = n5) := (by have := HST5.out.1.1; rw [rws_len] at this; show _ = _; omega)
        have hn530 : n5 ≤ 30 := HN5.out
        clear hb HM
        go_wp2
        go_loopw [44] (fun idx wr => ∃ i : Nat, i ≤ n5 ∧ idx = .int .i64 (i : Int) ∧ Below w.heap.size w wr ∧ MutS wr w.heap.size A5 n5 c5 zs) (fun idx _ => n5 - (intOf idx).toNat)
        case atStart => exact ⟨0, by omega, rfl, HBV.out, HMV.out⟩
        case round =>
          obtain ⟨i, hi, rfl, hb, hm⟩ := hrel
          have HB := Lib.hid hb
          have HMU := Lib.hid hm
          by_cases hlt : i < n5
          · obtain ⟨z, hz⟩ : ∃ z, zs[i]? = some z := ⟨_, List.getElem?_eq_getElem (by rw [HLZ.out]; exact hlt)⟩
            have hzm := List.mem_of_getElem? hz
            have HZM := Lib.hid hzm
            obtain ⟨g5, rfl⟩ := own_at hm.1 (by omega)
            have k3 := own_cell hm.1 (i * 7 + 3) (rws_at _ i z hz 3 _ rfl)
            have HK3 : Hid (∀ W, MutS W w.heap.size (some ⟨g5, 0, none⟩) n5 c5 zs → W.cell? ⟨g5, i * 7 + 3, none⟩ = some (.slice z.A z.n z.c)) := fun W h => own_cell h.1 (i * 7 + 3) (rws_at _ i z hz 3 _ rfl)
            have hzn : z.n ≤ 60 := by
              have h1 := (HK5.out z hzm).2
              have h2 := recs_ln (state_recs HST5.out) hzm
              omega
            obtain ⟨zr, Az, nz, cz, lz⟩ := z
            simp only at k3 HK3 hzn
            have hi0 : (0 : Int) ≤ (i : Int) := by omega
            have hi1 : (i : Int) < (n5 : Int) := by omega
            clear hz hzm hb hm
            go_wp2
            go_loopw [53] (fun idx wq => ∃ j : Nat, j ≤ nz ∧ idx = .int .i64 (j : Int) ∧ Below w.heap.size w wq ∧ MutS wq w.heap.size (some ⟨g5, 0, none⟩) n5 c5 zs) (fun idx _ => nz - (intOf idx).toNat)
            case atStart => exact ⟨0, by omega, rfl, HB.out, HMU.out⟩
            case round =>
              obtain ⟨j, hj, rfl, hb, hm⟩ := hrel
              have HB2 := Lib.hid hb
              have HM2 := Lib.hid hm
              have k3 := HK3.out wr hm
              by_cases hjlt : j < nz
              · obtain ⟨l, hl⟩ := hm.2 _ HZM.out
                have hz0 : 0 < nz := by omega
                obtain ⟨gz, e⟩ := own_at hl.1 hz0
                simp only at e hl
                subst e
                have hll : l.length = nz := by have h1 := hl.1.1; rw [dps_len] at h1; omega
                obtain ⟨d, hd⟩ : ∃ d, l[j]? = some d := ⟨_, List.getElem?_eq_getElem (by rw [hll]; exact hjlt)⟩
                have c1 := own_cell hl.1 (j * 3 + 1) (dps_at l j d hd).2.1
                have f1 := own_free hl.1 (j * 3 + 1)
                have HGZ : Hid (w.heap.size ≤ gz) := own_block hl.1 gz rfl
                have hj0 : (0 : Int) ≤ (j : Int) := by omega
                have hj1 : (j : Int) < (nz : Int) := by omega
                have HSET := Lib.hid (fun q : Int => hm.set (j := j) HZM.out rfl q)
                clear hb hm hl hd hll
                go_wp2
                exact ⟨⟨j + 1, by omega, by go_num, HB2.out.setCell (p := ⟨gz, j * 3 + 1, none⟩) HGZ.out _, HSET.out _⟩, by simp [intOf]; omega⟩
              · obtain rfl : j = nz := by omega
                clear hb hm
                go_wp2
                exact ⟨⟨i + 1, by omega, by go_num, HB2.out, HM2.out⟩, by simp [intOf]; omega⟩
          · obtain rfl : i = n5 := by omega
            clear hb hm
            go_wp2_with (first
              | (go_at_call 11; refine (rall_any Au Af nu _ cu cf us _ (by have := HNU.out; unfold maxLen; omega) (by have := HL7.out; unfold maxLen; omega) (fun x hx => (HKU.out.sizes HRU8.out x hx).2) _ HRU8.out HRF.out).mono ?_; rintro e w9 ⟨he, hb9⟩; obtain rfl := he.yes HU.out; have HB9 := Lib.hid (HB8.out.trans (hb9.mono HB8.out.size)); clear hb9)
              | (go_at_call 12; refine (rof_any A n c xs (by have := HN.out; omega) (fun x hx => (HSZ.out x hx).1) _ (RD.out _ HB7.out)).mono ?_; rintro e w8 ⟨Af, cf, rfl, hrf, hb8⟩; have HB8 := Lib.hid (HB7.out.trans (hb8.mono HB7.out.size)); have HRF := Lib.hid hrf; have HRU8 := Lib.hid ((HRU.out.below hb8).more hb8.size); clear hrf hb8)
              | (go_at_call 10; refine (HO.out _ HB6.out).mono ?_; rintro e w7 ⟨Au, nu, cu, us, rfl, hnu, hu, hku, hstu, hb7⟩; have HB7 := Lib.hid (HB6.out.trans (hb7.mono HB6.out.size)); have HU := Lib.hid hu; have HKU := Lib.hid hku; have HRU := Lib.hid (state_recs hstu); have HNU : Hid (nu ≤ 30) := (by have := HN.out; show nu ≤ 30; omega); clear hnu hu hku hstu hb7)
              | (go_at_call 9; refine (HFX.out _).mono ?_; rintro e w6 ⟨rfl, hb6⟩; have HB6 := Lib.hid (HB.out.trans (hb6.mono HB.out.size)); clear hb6))
            go_ret
            exact ⟨rfl, HB9.out⟩
      · refine wp_region_held (S := fun v => Below w5.heap.size w5 v) (by kernel_rfl) ?_
        have hS0 : Below w5.heap.size w5 w5.drew := (Below.refl _ w5).drew
        refine h_take 0 (.slice A5 n5 c5) rfl (by kernel_rfl) (by kernel_rfl) (by kernel_rfl) (fun _ _ _ h => h) (by kernel_rfl) hS0 (fun _ _ => by kernel_rfl) ?_
        refine h_take 1 (.slice A n c) rfl (by kernel_rfl) (by kernel_rfl) (by kernel_rfl) (fun _ _ _ h => h) (by kernel_rfl) hS0 (fun _ _ => by kernel_rfl) ?_
        refine h_one 2 rfl (by kernel_rfl) (by kernel_rfl) (fun K hK => ?_)
        go_simp
        refine (rof_any A n c xs (by have := HN.out; omega) (fun x hx => (HSZ.out x hx).1) _ (RD.out _ (HB5.out.trans (hS0.mono HB5.out.size)))).mono ?_
        rintro e w7 ⟨A7, c7, rfl, hr7, hb7⟩
        have HB7 := Lib.hid (hS0.trans (hb7.mono hS0.size))
        have HR7 := Lib.hid hr7
        clear hr7 hb7
        refine hK _ _ HB7.out ?_
        clear hK K
        refine h_one 3 rfl (by kernel_rfl) (by kernel_rfl) (fun K hK => ?_)
        go_simp
        refine (rall_any A5 A7 n5 _ c5 c7 zs _ (by have := HN5.out; unfold maxLen; omega) (by have := HL7.out; unfold maxLen; omega) (fun x hx => (HK5.out.sizes (HR5.out _ HB7.out) x hx).2) _ (HR5.out _ HB7.out) HR7.out).mono ?_
        rintro e w8 ⟨he, hb8⟩
        obtain rfl := he.yes HZ5.out
        have HB8 := Lib.hid (HB7.out.trans (hb8.mono HB7.out.size))
        clear hb8
        refine hK _ _ HB8.out ?_
        clear hK K
        refine h_take 4 (.bool true) rfl (by kernel_rfl) (by kernel_rfl) (by kernel_rfl) (fun _ _ _ h => h) (by kernel_rfl) HB8.out (fun _ _ => by kernel_rfl) ?_
        refine h_take 5 (.slice A n c) rfl (by kernel_rfl) (by kernel_rfl) (by kernel_rfl) (fun _ _ _ h => h) (by kernel_rfl) HB8.out (fun _ _ => by kernel_rfl) ?_
        refine h_take 9 (.slice A n c) rfl (by kernel_rfl) (by kernel_rfl) (by kernel_rfl) (fun _ _ _ h => h) (by kernel_rfl) HB8.out (fun _ _ => by kernel_rfl) ?_
        refine h_take 6 (.agg #[.int .i64 kd, .string (tx t), .int .u64 u, .slice Ar nr cr, .int .u64 o, .int .u64 m0, .string (tx g)]) rfl (by kernel_rfl) (by kernel_rfl) (by kernel_rfl) (fun _ _ _ h => h) (by kernel_rfl) HB8.out (by intro v hv; have hbx := (hv.block w.heap.size HBL.out).trans HBOX.out; have b0 := at_cell (i := 0) hbx rfl; have b1 := at_cell (i := 1) hbx rfl; have b2 := at_cell (i := 2) hbx rfl; have b3 := at_cell (i := 3) hbx rfl; have b4 := at_cell (i := 4) hbx rfl; have b5 := at_cell (i := 5) hbx rfl; have b6 := at_cell (i := 6) hbx rfl; go_simp) ?_
        refine h_take 11 (.agg #[.int .i64 kd, .string (tx t), .int .u64 u, .slice Ar nr cr, .int .u64 o, .int .u64 m0, .string (tx g)]) rfl (by kernel_rfl) (by kernel_rfl) (by kernel_rfl) (fun _ _ _ h => h) (by kernel_rfl) HB8.out (by intro v hv; have hbx := (hv.block w.heap.size HBL.out).trans HBOX.out; have b0 := at_cell (i := 0) hbx rfl; have b1 := at_cell (i := 1) hbx rfl; have b2 := at_cell (i := 2) hbx rfl; have b3 := at_cell (i := 3) hbx rfl; have b4 := at_cell (i := 4) hbx rfl; have b5 := at_cell (i := 5) hbx rfl; have b6 := at_cell (i := 6) hbx rfl; go_simp) ?_
        refine h_three 7 8 12 rfl rfl rfl (by kernel_rfl) (by kernel_rfl) (by kernel_rfl) (by kernel_rfl) (fun K hK => ?_) (fun K hK => ?_) (fun K hK => ?_) 
        · go_simp
          refine (fputs_any A n c xs ⟨⟨kd, t, u, o, m0, g⟩, Ar, nr, cr, lr⟩ (by have := HN.out; omega) HSZ.out HXZ.out _ (RD.out _ (HB5.out.trans (HB8.out.mono HB5.out.size))) (HXR.out _ (HB5.out.trans (HB8.out.mono HB5.out.size)))).mono ?_
          rintro e wp1 ⟨A6, c6, ps, rfl, hp6, hst6, hb6⟩
          have HBp2 := Lib.hid (HB8.out.trans (hb6.mono HB8.out.size))
          have HP6 := Lib.hid hp6
          have HL6 : Hid ((fo Rw.k Rw.t (xs ++ [⟨⟨kd, t, u, o, m0, g⟩, Ar, nr, cr, lr⟩])).length ≤ 40) := (by have := fo_len (k := Rw.k) (t := Rw.t) (xs ++ [⟨⟨kd, t, u, o, m0, g⟩, Ar, nr, cr, lr⟩]); rw [List.length_append, HL.out] at this; simp at this; have := HN.out; show _ ≤ 40; omega)
          have HP3 := Lib.hid hst6
          clear hp6 hst6 hb6
          refine hK _ _ HBp2.out ?_
          clear hK K
          refine h_either 8 12 rfl rfl (by kernel_rfl) (by kernel_rfl) (by kernel_rfl) (fun K hK => ?_) (fun K hK => ?_) 
          · go_simp
            have hnew := one_new wp1 (.cells #[] 26)
            have hbn := HBp2.out.alloc HBp2.out.size (.cells #[] 26)
            have hsz : (wp1.alloc (.cells #[] 26)).heap.size = wp1.heap.size + 1 := by simp
            have hen := own_less (own_emptyN wp1 26 7) HBp2.out.size
            have hpn := StAv.ahead HP3.out (.cells #[] 26)
            generalize (wp1.alloc (.cells #[] 26)) = wa4 at *
            have HBa5 := Lib.hid hbn
            have HE6 := Lib.hid hen
            have HP7 := Lib.hid hpn
            have HG8 : Hid (wp1.heap.size < wa4.heap.size) := (by show _ < _; omega)
            clear hnew hbn hsz hen hpn
            refine hK _ _ HBa5.out ?_
            clear hK K
            refine h_either 10 12 rfl rfl (by kernel_rfl) (by kernel_rfl) (by kernel_rfl) (fun K hK => ?_) (fun K hK => ?_) 
            · refine wp_append_many (.tmp 26) (.tmp 27) 22 rfl w5.heap.size 26 ig _ 7 88 Try.underlying22 hig hz0 hz1 hz2 rfl (by decide) (.slice (some ⟨wp1.heap.size, 0, none⟩) 0 0) (0) ([]) rfl HE6.out (A) (n) (c) wa4.heap.size (rws xs) rfl HAC.out (RD.out _ (HB5.out.trans (HBa5.out.mono HB5.out.size))).1 (rws_one _) (by have := HN.out; unfold maxLen; omega) (by have := HN.out; omega) HBa5.out.size ?_
              intro v28 wq9 hr9 hg9 hv9
              rw [Nat.zero_add, List.nil_append] at hr9
              have HBq10 := Lib.hid (HBa5.out.grown hg9 HBa5.out.size (fun j hj => own_block HE6.out j hj))
              have hg8 : wa4.grownBy wq9 (some (wp1.heap.size)) := hg9
              have HP11 := Lib.hid (StAv.grown HP7.out hg8 hv9)
              have HV12 := Lib.hid hr9
              have HG13 : Hid (wp1.heap.size < wq9.heap.size) := (Nat.lt_of_lt_of_le (by exact HG8.out) hg9.size)
              clear hr9 hg9 hv9 hg8
              refine hK _ _ HBq10.out ?_
              clear hK K
              refine h_one 12 rfl (by kernel_rfl) (by kernel_rfl) (fun K hK => ?_)
              go_simp
              have hnew := one_new wq9 (.cells #[.int .i64 kd, .string (tx t), .int .u64 u, .slice Ar nr cr, .int .u64 o, .int .u64 m0, .string (tx g)] 26)
              have hbn := HBq10.out.alloc HBq10.out.size (.cells #[.int .i64 kd, .string (tx t), .int .u64 u, .slice Ar nr cr, .int .u64 o, .int .u64 m0, .string (tx g)] 26)
              have hsz : (wq9.alloc (.cells #[.int .i64 kd, .string (tx t), .int .u64 u, .slice Ar nr cr, .int .u64 o, .int .u64 m0, .string (tx g)] 26)).heap.size = wq9.heap.size + 1 := by simp
              have hpn := StAv.alloc HP11.out (.cells #[.int .i64 kd, .string (tx t), .int .u64 u, .slice Ar nr cr, .int .u64 o, .int .u64 m0, .string (tx g)] 26)
              have hvn := World.ownsRow.alloc HV12.out (.cells #[.int .i64 kd, .string (tx t), .int .u64 u, .slice Ar nr cr, .int .u64 o, .int .u64 m0, .string (tx g)] 26)
              generalize (wq9.alloc (.cells #[.int .i64 kd, .string (tx t), .int .u64 u, .slice Ar nr cr, .int .u64 o, .int .u64 m0, .string (tx g)] 26)) = wa14 at *
              have HBa15 := Lib.hid hbn
              have HP16 := Lib.hid hpn
              have HV17 := Lib.hid hvn
              have HR18 : Hid (wa14.heap[wq9.heap.size]? = some (.cells #[.int .i64 kd, .string (tx t), .int .u64 u, .slice Ar nr cr, .int .u64 o, .int .u64 m0, .string (tx g)] 26 (0, 0))) := hnew
              clear hnew hbn hsz hpn hvn
              refine hK _ _ HBa15.out ?_
              clear hK K
              refine h_one 13 rfl (by kernel_rfl) (by kernel_rfl) (fun K hK => ?_)
              have hrd1 : Reads wa14 wa14.heap.size 7 (some ⟨wq9.heap.size, 0, none⟩) 1 (rws [⟨⟨kd, t, u, o, m0, g⟩, Ar, nr, cr, lr⟩]) := ⟨rfl, fun _ => ⟨_, rfl, (Array.getElem?_eq_some_iff.1 HR18.out).1, fun j u hu => by
                rw [Addr.add_mid, Nat.zero_add]
                exact at_cell HR18.out (by simpa [rws, Rw.cells] using hu)⟩⟩
              refine wp_append_many (.tmp 28) (.tmp 30) 22 rfl w5.heap.size 26 ig _ 7 88 Try.underlying22 hig hz0 hz1 hz2 rfl (by decide) (v28) (n) (rws xs) rfl HV17.out (some ⟨wq9.heap.size, 0, none⟩) (1) (1) wa14.heap.size (rws [⟨⟨kd, t, u, o, m0, g⟩, Ar, nr, cr, lr⟩]) rfl (fun h => by cases h) hrd1 (rws_one _) (by have := HN.out; unfold maxLen; omega) (by have := HN.out; omega) HBa15.out.size ?_
              intro v31 wr9 hr9 hg9 hv9
              rw [← rws_app] at hr9
              have HP9 := Lib.hid (StAv.grown HP16.out hg9 hv9)
              have HB9 := Lib.hid (HBa15.out.grown hg9 HBa15.out.size (fun j hj => own_block HV17.out j hj))
              obtain ⟨Ab, cb, rfl, _⟩ := own_slice hr9
              have HRB : Hid (Recs wr9 wr9.heap.size Ab (n + 1) (xs ++ [⟨⟨kd, t, u, o, m0, g⟩, Ar, nr, cr, lr⟩])) := ⟨Reads.of_own hr9, fun z hz => by
                rcases List.mem_append.1 hz with hz | hz
                · exact (RD.out wr9 (HB5.out.trans (HB9.out.mono HB5.out.size))).2 z hz
                · obtain rfl := List.mem_singleton.1 hz
                  exact HXR.out wr9 (HB5.out.trans (HB9.out.mono HB5.out.size))⟩
              clear hr9 hg9 hv9 hrd1
              refine hK _ _ HB9.out ?_
              clear hK K
              refine h_one 14 rfl (by kernel_rfl) (by kernel_rfl) (fun K hK => ?_)
              go_simp
              refine (rof_any Ab (n + 1) cb (xs ++ [⟨⟨kd, t, u, o, m0, g⟩, Ar, nr, cr, lr⟩]) (by have := HN.out; omega) HTL.out _ HRB.out).mono ?_
              rintro e wra ⟨Ac, cc, rfl, hrc, hbc⟩
              have HBC := Lib.hid (HB9.out.trans (hbc.mono HB9.out.size))
              have HRC := Lib.hid hrc
              have HPC := Lib.hid (HP9.out.below hbc).recs
              clear hrc hbc
              refine hK _ _ HBC.out ?_
              clear hK K
              refine h_one 15 rfl (by kernel_rfl) (by kernel_rfl) (fun K hK => ?_)
              go_simp
              refine (rall_any A6 Ac _ _ c6 cc ps _ (by have := HL6.out; unfold maxLen; omega) (by have := HL6.out; unfold maxLen; omega) (HSP.out ps HP6.out _ _ _ _ HPC.out) _ HPC.out HRC.out).mono ?_
              rintro e wrb ⟨he, hbd⟩
              obtain rfl := he.yes HP6.out
              have HBD := Lib.hid (HBC.out.trans (hbd.mono HBC.out.size))
              clear hbd
              refine hK _ _ HBD.out ?_
              clear hK K
              refine h_take 16 (.bool true) rfl (by kernel_rfl) (by kernel_rfl) (by kernel_rfl) (fun _ _ _ h => h) (by kernel_rfl) HBD.out (fun _ _ => by kernel_rfl) ?_
              refine h_take 17 (.bool true) rfl (by kernel_rfl) (by kernel_rfl) (by kernel_rfl) (fun _ _ _ h => h) (by kernel_rfl) HBD.out (fun _ _ => by kernel_rfl) ?_
              refine h_take 18 (.slice A n c) rfl (by kernel_rfl) (by kernel_rfl) (by kernel_rfl) (fun _ _ _ h => h) (by kernel_rfl) HBD.out (fun _ _ => by kernel_rfl) ?_
              refine h_take 20 (.slice A n c) rfl (by kernel_rfl) (by kernel_rfl) (by kernel_rfl) (fun _ _ _ h => h) (by kernel_rfl) HBD.out (fun _ _ => by kernel_rfl) ?_
              refine h_one 19 rfl (by kernel_rfl) (by kernel_rfl) (fun K hK => ?_)
              go_simp
              refine (right_any A n c xs (by have := HN.out; omega) _ (RD.out _ (HB5.out.trans (HBD.out.mono HB5.out.size)))).mono ?_
              rintro e wrc ⟨⟨q1, hq1, rfl⟩, hbe⟩
              have HBE := Lib.hid (HBD.out.trans (hbe.mono HBD.out.size))
              have HQ1 := Lib.hid hq1
              clear hbe hq1
              refine hK _ _ HBE.out ?_
              clear hK K
              refine h_one 21 rfl (by kernel_rfl) (by kernel_rfl) (fun K hK => ?_)
              go_simp
              refine (rright_any A n c xs (by have := HN.out; omega) (fun x hx => (HSZ.out x hx).1) _ (RD.out _ (HB5.out.trans (HBE.out.mono HB5.out.size)))).mono ?_
              rintro e wrd ⟨⟨q2, hq2, rfl⟩, hbf⟩
              obtain rfl : q2 = q1 := Bool.eq_iff_iff.2 (hq2.trans HQ1.out.symm)
              have HBF := Lib.hid (HBE.out.trans (hbf.mono HBE.out.size))
              clear hbf hq2
              refine hK _ _ HBF.out ?_
              clear hK K
              refine h_take 22 (.bool true) rfl (by kernel_rfl) (by kernel_rfl) (by kernel_rfl) (fun _ _ _ h => h) (by kernel_rfl) HBF.out (by intro v hv; go_simp) ?_
              refine h_take 23 (.bool true) rfl (by kernel_rfl) (by kernel_rfl) (by kernel_rfl) (fun _ _ _ h => h) (by kernel_rfl) HBF.out (fun _ _ => by kernel_rfl) ?_
              refine h_take 24 (.bool true) rfl (by kernel_rfl) (by kernel_rfl) (by kernel_rfl) (fun _ _ _ h => h) (by kernel_rfl) HBF.out (fun _ _ => by kernel_rfl) ?_
              refine wpAnyH_done (by kernel_rfl) ?_ _
              go_simp
              rw [HM.out]
              exact ⟨_, _, _, _, _, _, _, _, _, _, _, _, _, _, _, _, _, _, _, _, _, _, _, _, _, _, _, _, _, _, _, _, _, _, _, _, _, _, _, rfl, HBF.out⟩
            · go_simp
              have hnew := one_new wa4 (.cells #[.int .i64 kd, .string (tx t), .int .u64 u, .slice Ar nr cr, .int .u64 o, .int .u64 m0, .string (tx g)] 26)
              have hbn := HBa5.out.alloc HBa5.out.size (.cells #[.int .i64 kd, .string (tx t), .int .u64 u, .slice Ar nr cr, .int .u64 o, .int .u64 m0, .string (tx g)] 26)
              have hsz : (wa4.alloc (.cells #[.int .i64 kd, .string (tx t), .int .u64 u, .slice Ar nr cr, .int .u64 o, .int .u64 m0, .string (tx g)] 26)).heap.size = wa4.heap.size + 1 := by simp
              have hen := World.ownsRow.alloc HE6.out (.cells #[.int .i64 kd, .string (tx t), .int .u64 u, .slice Ar nr cr, .int .u64 o, .int .u64 m0, .string (tx g)] 26)
              have hpn := StAv.alloc HP7.out (.cells #[.int .i64 kd, .string (tx t), .int .u64 u, .slice Ar nr cr, .int .u64 o, .int .u64 m0, .string (tx g)] 26)
              generalize (wa4.alloc (.cells #[.int .i64 kd, .string (tx t), .int .u64 u, .slice Ar nr cr, .int .u64 o, .int .u64 m0, .string (tx g)] 26)) = wa19 at *
              have HBa20 := Lib.hid hbn
              have HE21 := Lib.hid hen
              have HP22 := Lib.hid hpn
              have HR23 : Hid (wa19.heap[wa4.heap.size]? = some (.cells #[.int .i64 kd, .string (tx t), .int .u64 u, .slice Ar nr cr, .int .u64 o, .int .u64 m0, .string (tx g)] 26 (0, 0))) := hnew
              have HG24 : Hid (wp1.heap.size < wa19.heap.size) := (by have h0 : wp1.heap.size < wa4.heap.size := (by exact HG8.out); show _ < _; omega)
              have HN25 : Hid (wa4.heap.size ≠ wp1.heap.size) := (by have h0 : wp1.heap.size < wa4.heap.size := (by exact HG8.out); show _ ≠ _; omega)
              clear hnew hbn hsz hen hpn
              refine hK _ _ HBa20.out ?_
              clear hK K
              refine h_one 10 rfl (by kernel_rfl) (by kernel_rfl) (fun K hK => ?_)
              refine wp_append_many (.tmp 26) (.tmp 27) 22 rfl w5.heap.size 26 ig _ 7 88 Try.underlying22 hig hz0 hz1 hz2 rfl (by decide) (.slice (some ⟨wp1.heap.size, 0, none⟩) 0 0) (0) ([]) rfl HE21.out (A) (n) (c) wa19.heap.size (rws xs) rfl HAC.out (RD.out _ (HB5.out.trans (HBa20.out.mono HB5.out.size))).1 (rws_one _) (by have := HN.out; unfold maxLen; omega) (by have := HN.out; omega) HBa20.out.size ?_
              intro v28 wq26 hr9 hg9 hv9
              rw [Nat.zero_add, List.nil_append] at hr9
              have HBq27 := Lib.hid (HBa20.out.grown hg9 HBa20.out.size (fun j hj => own_block HE21.out j hj))
              have hg8 : wa19.grownBy wq26 (some (wp1.heap.size)) := hg9
              have HP28 := Lib.hid (StAv.grown HP22.out hg8 hv9)
              have HR29 : Hid (wq26.heap[wa4.heap.size]? = some (.cells #[.int .i64 kd, .string (tx t), .int .u64 u, .slice Ar nr cr, .int .u64 o, .int .u64 m0, .string (tx g)] 26 (0, 0))) := ((hg8.block (wa4.heap.size) (Array.getElem?_eq_some_iff.1 HR23.out).1 (fun e => HN25.out (by injection e))).trans HR23.out)
              have HV30 := Lib.hid hr9
              have HG31 : Hid (wp1.heap.size < wq26.heap.size) := (Nat.lt_of_lt_of_le (by exact HG24.out) hg9.size)
              clear hr9 hg9 hv9 hg8
              refine hK _ _ HBq27.out ?_
              clear hK K
              refine h_one 13 rfl (by kernel_rfl) (by kernel_rfl) (fun K hK => ?_)
              have hrd1 : Reads wq26 wq26.heap.size 7 (some ⟨wa4.heap.size, 0, none⟩) 1 (rws [⟨⟨kd, t, u, o, m0, g⟩, Ar, nr, cr, lr⟩]) := ⟨rfl, fun _ => ⟨_, rfl, (Array.getElem?_eq_some_iff.1 HR29.out).1, fun j u hu => by
                rw [Addr.add_mid, Nat.zero_add]
                exact at_cell HR29.out (by simpa [rws, Rw.cells] using hu)⟩⟩
              refine wp_append_many (.tmp 28) (.tmp 30) 22 rfl w5.heap.size 26 ig _ 7 88 Try.underlying22 hig hz0 hz1 hz2 rfl (by decide) (v28) (n) (rws xs) rfl HV30.out (some ⟨wa4.heap.size, 0, none⟩) (1) (1) wq26.heap.size (rws [⟨⟨kd, t, u, o, m0, g⟩, Ar, nr, cr, lr⟩]) rfl (fun h => by cases h) hrd1 (rws_one _) (by have := HN.out; unfold maxLen; omega) (by have := HN.out; omega) HBq27.out.size ?_
              intro v31 wr9 hr9 hg9 hv9
              rw [← rws_app] at hr9
              have HP9 := Lib.hid (StAv.grown HP28.out hg9 hv9)
              have HB9 := Lib.hid (HBq27.out.grown hg9 HBq27.out.size (fun j hj => own_block HV30.out j hj))
              obtain ⟨Ab, cb, rfl, _⟩ := own_slice hr9
              have HRB : Hid (Recs wr9 wr9.heap.size Ab (n + 1) (xs ++ [⟨⟨kd, t, u, o, m0, g⟩, Ar, nr, cr, lr⟩])) := ⟨Reads.of_own hr9, fun z hz => by
                rcases List.mem_append.1 hz with hz | hz
                · exact (RD.out wr9 (HB5.out.trans (HB9.out.mono HB5.out.size))).2 z hz
                · obtain rfl := List.mem_singleton.1 hz
                  exact HXR.out wr9 (HB5.out.trans (HB9.out.mono HB5.out.size))⟩
              clear hr9 hg9 hv9 hrd1
              refine hK _ _ HB9.out ?_
              clear hK K
              refine h_one 14 rfl (by kernel_rfl) (by kernel_rfl) (fun K hK => ?_)
              go_simp
              refine (rof_any Ab (n + 1) cb (xs ++ [⟨⟨kd, t, u, o, m0, g⟩, Ar, nr, cr, lr⟩]) (by have := HN.out; omega) HTL.out _ HRB.out).mono ?_
              rintro e wra ⟨Ac, cc, rfl, hrc, hbc⟩
              have HBC := Lib.hid (HB9.out.trans (hbc.mono HB9.out.size))
              have HRC := Lib.hid hrc
              have HPC := Lib.hid (HP9.out.below hbc).recs
              clear hrc hbc
              refine hK _ _ HBC.out ?_
              clear hK K
              refine h_one 15 rfl (by kernel_rfl) (by kernel_rfl) (fun K hK => ?_)
              go_simp
              refine (rall_any A6 Ac _ _ c6 cc ps _ (by have := HL6.out; unfold maxLen; omega) (by have := HL6.out; unfold maxLen; omega) (HSP.out ps HP6.out _ _ _ _ HPC.out) _ HPC.out HRC.out).mono ?_
              rintro e wrb ⟨he, hbd⟩
              obtain rfl := he.yes HP6.out
              have HBD := Lib.hid (HBC.out.trans (hbd.mono HBC.out.size))
              clear hbd
              refine hK _ _ HBD.out ?_
              clear hK K
              refine h_take 16 (.bool true) rfl (by kernel_rfl) (by kernel_rfl) (by kernel_rfl) (fun _ _ _ h => h) (by kernel_rfl) HBD.out (fun _ _ => by kernel_rfl) ?_
              refine h_take 17 (.bool true) rfl (by kernel_rfl) (by kernel_rfl) (by kernel_rfl) (fun _ _ _ h => h) (by kernel_rfl) HBD.out (fun _ _ => by kernel_rfl) ?_
              refine h_take 18 (.slice A n c) rfl (by kernel_rfl) (by kernel_rfl) (by kernel_rfl) (fun _ _ _ h => h) (by kernel_rfl) HBD.out (fun _ _ => by kernel_rfl) ?_
              refine h_take 20 (.slice A n c) rfl (by kernel_rfl) (by kernel_rfl) (by kernel_rfl) (fun _ _ _ h => h) (by kernel_rfl) HBD.out (fun _ _ => by kernel_rfl) ?_
              refine h_one 19 rfl (by kernel_rfl) (by kernel_rfl) (fun K hK => ?_)
              go_simp
              refine (right_any A n c xs (by have := HN.out; omega) _ (RD.out _ (HB5.out.trans (HBD.out.mono HB5.out.size)))).mono ?_
              rintro e wrc ⟨⟨q1, hq1, rfl⟩, hbe⟩
              have HBE := Lib.hid (HBD.out.trans (hbe.mono HBD.out.size))
              have HQ1 := Lib.hid hq1
              clear hbe hq1
              refine hK _ _ HBE.out ?_
              clear hK K
              refine h_one 21 rfl (by kernel_rfl) (by kernel_rfl) (fun K hK => ?_)
              go_simp
              refine (rright_any A n c xs (by have := HN.out; omega) (fun x hx => (HSZ.out x hx).1) _ (RD.out _ (HB5.out.trans (HBE.out.mono HB5.out.size)))).mono ?_
              rintro e wrd ⟨⟨q2, hq2, rfl⟩, hbf⟩
              obtain rfl : q2 = q1 := Bool.eq_iff_iff.2 (hq2.trans HQ1.out.symm)
              have HBF := Lib.hid (HBE.out.trans (hbf.mono HBE.out.size))
              clear hbf hq2
              refine hK _ _ HBF.out ?_
              clear hK K
              refine h_take 22 (.bool true) rfl (by kernel_rfl) (by kernel_rfl) (by kernel_rfl) (fun _ _ _ h => h) (by kernel_rfl) HBF.out (by intro v hv; go_simp) ?_
              refine h_take 23 (.bool true) rfl (by kernel_rfl) (by kernel_rfl) (by kernel_rfl) (fun _ _ _ h => h) (by kernel_rfl) HBF.out (fun _ _ => by kernel_rfl) ?_
              refine h_take 24 (.bool true) rfl (by kernel_rfl) (by kernel_rfl) (by kernel_rfl) (fun _ _ _ h => h) (by kernel_rfl) HBF.out (fun _ _ => by kernel_rfl) ?_
              refine wpAnyH_done (by kernel_rfl) ?_ _
              go_simp
              rw [HM.out]
              exact ⟨_, _, _, _, _, _, _, _, _, _, _, _, _, _, _, _, _, _, _, _, _, _, _, _, _, _, _, _, _, _, _, _, _, _, _, _, _, _, _, rfl, HBF.out⟩
          · go_simp
            have hnew := one_new wp1 (.cells #[.int .i64 kd, .string (tx t), .int .u64 u, .slice Ar nr cr, .int .u64 o, .int .u64 m0, .string (tx g)] 26)
            have hbn := HBp2.out.alloc HBp2.out.size (.cells #[.int .i64 kd, .string (tx t), .int .u64 u, .slice Ar nr cr, .int .u64 o, .int .u64 m0, .string (tx g)] 26)
            have hsz : (wp1.alloc (.cells #[.int .i64 kd, .string (tx t), .int .u64 u, .slice Ar nr cr, .int .u64 o, .int .u64 m0, .string (tx g)] 26)).heap.size = wp1.heap.size + 1 := by simp
            have hpn : StateIn (wp1.alloc (.cells #[.int .i64 kd, .string (tx t), .int .u64 u, .slice Ar nr cr, .int .u64 o, .int .u64 m0, .string (tx g)] 26)) _ _ _ _ _ := ⟨World.ownsRow.alloc HP3.out.1 _, HP3.out.2.1, fun z hz => deps_alloc (HP3.out.2.2 z hz) _⟩
            generalize (wp1.alloc (.cells #[.int .i64 kd, .string (tx t), .int .u64 u, .slice Ar nr cr, .int .u64 o, .int .u64 m0, .string (tx g)] 26)) = wa32 at *
            have HBa33 := Lib.hid hbn
            have HP34 := Lib.hid hpn
            have HR35 : Hid (wa32.heap[wp1.heap.size]? = some (.cells #[.int .i64 kd, .string (tx t), .int .u64 u, .slice Ar nr cr, .int .u64 o, .int .u64 m0, .string (tx g)] 26 (0, 0))) := hnew
            clear hnew hbn hsz hpn
            refine hK _ _ HBa33.out ?_
            clear hK K
            refine h_one 8 rfl (by kernel_rfl) (by kernel_rfl) (fun K hK => ?_)
            go_simp
            have hnew := one_new wa32 (.cells #[] 26)
            have hbn := HBa33.out.alloc HBa33.out.size (.cells #[] 26)
            have hsz : (wa32.alloc (.cells #[] 26)).heap.size = wa32.heap.size + 1 := by simp
            have hen := own_less (own_emptyN wa32 26 7) HBa33.out.size
            have hpn := StAv.ahead HP34.out (.cells #[] 26)
            have hrn := (Below.heap_alloc wa32 (.cells #[] 26) (wp1.heap.size) (Array.getElem?_eq_some_iff.1 HR35.out).1).trans HR35.out
            generalize (wa32.alloc (.cells #[] 26)) = wa36 at *
            have HBa37 := Lib.hid hbn
            have HE38 := Lib.hid hen
            have HP39 := Lib.hid hpn
            have HR40 := Lib.hid hrn
            have HG41 : Hid (wa32.heap.size < wa36.heap.size) := (by show _ < _; omega)
            have HN42 : Hid (wp1.heap.size ≠ wa32.heap.size) := (by have h0 := (Array.getElem?_eq_some_iff.1 HR35.out).1; show _ ≠ _; omega)
            clear hnew hbn hsz hen hpn hrn
            refine hK _ _ HBa37.out ?_
            clear hK K
            refine h_one 10 rfl (by kernel_rfl) (by kernel_rfl) (fun K hK => ?_)
            refine wp_append_many (.tmp 26) (.tmp 27) 22 rfl w5.heap.size 26 ig _ 7 88 Try.underlying22 hig hz0 hz1 hz2 rfl (by decide) (.slice (some ⟨wa32.heap.size, 0, none⟩) 0 0) (0) ([]) rfl HE38.out (A) (n) (c) wa36.heap.size (rws xs) rfl HAC.out (RD.out _ (HB5.out.trans (HBa37.out.mono HB5.out.size))).1 (rws_one _) (by have := HN.out; unfold maxLen; omega) (by have := HN.out; omega) HBa37.out.size ?_
            intro v28 wq43 hr9 hg9 hv9
            rw [Nat.zero_add, List.nil_append] at hr9
            have HBq44 := Lib.hid (HBa37.out.grown hg9 HBa37.out.size (fun j hj => own_block HE38.out j hj))
            have hg8 : wa36.grownBy wq43 (some (wa32.heap.size)) := hg9
            have HP45 := Lib.hid (StAv.grown HP39.out hg8 hv9)
            have HR46 : Hid (wq43.heap[wp1.heap.size]? = some (.cells #[.int .i64 kd, .string (tx t), .int .u64 u, .slice Ar nr cr, .int .u64 o, .int .u64 m0, .string (tx g)] 26 (0, 0))) := ((hg8.block (wp1.heap.size) (Array.getElem?_eq_some_iff.1 HR40.out).1 (fun e => HN42.out (by injection e))).trans HR40.out)
            have HV47 := Lib.hid hr9
            have HG48 : Hid (wa32.heap.size < wq43.heap.size) := (Nat.lt_of_lt_of_le (by exact HG41.out) hg9.size)
            clear hr9 hg9 hv9 hg8
            refine hK _ _ HBq44.out ?_
            clear hK K
            refine h_one 13 rfl (by kernel_rfl) (by kernel_rfl) (fun K hK => ?_)
            have hrd1 : Reads wq43 wq43.heap.size 7 (some ⟨wp1.heap.size, 0, none⟩) 1 (rws [⟨⟨kd, t, u, o, m0, g⟩, Ar, nr, cr, lr⟩]) := ⟨rfl, fun _ => ⟨_, rfl, (Array.getElem?_eq_some_iff.1 HR46.out).1, fun j u hu => by
              rw [Addr.add_mid, Nat.zero_add]
              exact at_cell HR46.out (by simpa [rws, Rw.cells] using hu)⟩⟩
            refine wp_append_many (.tmp 28) (.tmp 30) 22 rfl w5.heap.size 26 ig _ 7 88 Try.underlying22 hig hz0 hz1 hz2 rfl (by decide) (v28) (n) (rws xs) rfl HV47.out (some ⟨wp1.heap.size, 0, none⟩) (1) (1) wq43.heap.size (rws [⟨⟨kd, t, u, o, m0, g⟩, Ar, nr, cr, lr⟩]) rfl (fun h => by cases h) hrd1 (rws_one _) (by have := HN.out; unfold maxLen; omega) (by have := HN.out; omega) HBq44.out.size ?_
            intro v31 wr9 hr9 hg9 hv9
            rw [← rws_app] at hr9
            have HP9 := Lib.hid (StAv.grown HP45.out hg9 hv9)
            have HB9 := Lib.hid (HBq44.out.grown hg9 HBq44.out.size (fun j hj => own_block HV47.out j hj))
            obtain ⟨Ab, cb, rfl, _⟩ := own_slice hr9
            have HRB : Hid (Recs wr9 wr9.heap.size Ab (n + 1) (xs ++ [⟨⟨kd, t, u, o, m0, g⟩, Ar, nr, cr, lr⟩])) := ⟨Reads.of_own hr9, fun z hz => by
              rcases List.mem_append.1 hz with hz | hz
              · exact (RD.out wr9 (HB5.out.trans (HB9.out.mono HB5.out.size))).2 z hz
              · obtain rfl := List.mem_singleton.1 hz
                exact HXR.out wr9 (HB5.out.trans (HB9.out.mono HB5.out.size))⟩
            clear hr9 hg9 hv9 hrd1
            refine hK _ _ HB9.out ?_
            clear hK K
            refine h_one 14 rfl (by kernel_rfl) (by kernel_rfl) (fun K hK => ?_)
            go_simp
            refine (rof_any Ab (n + 1) cb (xs ++ [⟨⟨kd, t, u, o, m0, g⟩, Ar, nr, cr, lr⟩]) (by have := HN.out; omega) HTL.out _ HRB.out).mono ?_
            rintro e wra ⟨Ac, cc, rfl, hrc, hbc⟩
            have HBC := Lib.hid (HB9.out.trans (hbc.mono HB9.out.size))
            have HRC := Lib.hid hrc
            have HPC := Lib.hid (HP9.out.below hbc).recs
            clear hrc hbc
            refine hK _ _ HBC.out ?_
            clear hK K
            refine h_one 15 rfl (by kernel_rfl) (by kernel_rfl) (fun K hK => ?_)
            go_simp
            refine (rall_any A6 Ac _ _ c6 cc ps _ (by have := HL6.out; unfold maxLen; omega) (by have := HL6.out; unfold maxLen; omega) (HSP.out ps HP6.out _ _ _ _ HPC.out) _ HPC.out HRC.out).mono ?_
            rintro e wrb ⟨he, hbd⟩
            obtain rfl := he.yes HP6.out
            have HBD := Lib.hid (HBC.out.trans (hbd.mono HBC.out.size))
            clear hbd
            refine hK _ _ HBD.out ?_
            clear hK K
            refine h_take 16 (.bool true) rfl (by kernel_rfl) (by kernel_rfl) (by kernel_rfl) (fun _ _ _ h => h) (by kernel_rfl) HBD.out (fun _ _ => by kernel_rfl) ?_
            refine h_take 17 (.bool true) rfl (by kernel_rfl) (by kernel_rfl) (by kernel_rfl) (fun _ _ _ h => h) (by kernel_rfl) HBD.out (fun _ _ => by kernel_rfl) ?_
            refine h_take 18 (.slice A n c) rfl (by kernel_rfl) (by kernel_rfl) (by kernel_rfl) (fun _ _ _ h => h) (by kernel_rfl) HBD.out (fun _ _ => by kernel_rfl) ?_
            refine h_take 20 (.slice A n c) rfl (by kernel_rfl) (by kernel_rfl) (by kernel_rfl) (fun _ _ _ h => h) (by kernel_rfl) HBD.out (fun _ _ => by kernel_rfl) ?_
            refine h_one 19 rfl (by kernel_rfl) (by kernel_rfl) (fun K hK => ?_)
            go_simp
            refine (right_any A n c xs (by have := HN.out; omega) _ (RD.out _ (HB5.out.trans (HBD.out.mono HB5.out.size)))).mono ?_
            rintro e wrc ⟨⟨q1, hq1, rfl⟩, hbe⟩
            have HBE := Lib.hid (HBD.out.trans (hbe.mono HBD.out.size))
            have HQ1 := Lib.hid hq1
            clear hbe hq1
            refine hK _ _ HBE.out ?_
            clear hK K
            refine h_one 21 rfl (by kernel_rfl) (by kernel_rfl) (fun K hK => ?_)
            go_simp
            refine (rright_any A n c xs (by have := HN.out; omega) (fun x hx => (HSZ.out x hx).1) _ (RD.out _ (HB5.out.trans (HBE.out.mono HB5.out.size)))).mono ?_
            rintro e wrd ⟨⟨q2, hq2, rfl⟩, hbf⟩
            obtain rfl : q2 = q1 := Bool.eq_iff_iff.2 (hq2.trans HQ1.out.symm)
            have HBF := Lib.hid (HBE.out.trans (hbf.mono HBE.out.size))
            clear hbf hq2
            refine hK _ _ HBF.out ?_
            clear hK K
            refine h_take 22 (.bool true) rfl (by kernel_rfl) (by kernel_rfl) (by kernel_rfl) (fun _ _ _ h => h) (by kernel_rfl) HBF.out (by intro v hv; go_simp) ?_
            refine h_take 23 (.bool true) rfl (by kernel_rfl) (by kernel_rfl) (by kernel_rfl) (fun _ _ _ h => h) (by kernel_rfl) HBF.out (fun _ _ => by kernel_rfl) ?_
            refine h_take 24 (.bool true) rfl (by kernel_rfl) (by kernel_rfl) (by kernel_rfl) (fun _ _ _ h => h) (by kernel_rfl) HBF.out (fun _ _ => by kernel_rfl) ?_
            refine wpAnyH_done (by kernel_rfl) ?_ _
            go_simp
            rw [HM.out]
            exact ⟨_, _, _, _, _, _, _, _, _, _, _, _, _, _, _, _, _, _, _, _, _, _, _, _, _, _, _, _, _, _, _, _, _, _, _, _, _, _, _, rfl, HBF.out⟩
        · go_simp
          have hnew := one_new w8 (.cells #[] 26)
          have hbn := HB8.out.alloc HB8.out.size (.cells #[] 26)
          have hsz : (w8.alloc (.cells #[] 26)).heap.size = w8.heap.size + 1 := by simp
          have hen := own_less (own_emptyN w8 26 7) HB8.out.size
          generalize (w8.alloc (.cells #[] 26)) = wa49 at *
          have HBa50 := Lib.hid hbn
          have HE51 := Lib.hid hen
          have HG52 : Hid (w8.heap.size < wa49.heap.size) := (by show _ < _; omega)
          clear hnew hbn hsz hen
          refine hK _ _ HBa50.out ?_
          clear hK K
          refine h_either 7 12 rfl rfl (by kernel_rfl) (by kernel_rfl) (by kernel_rfl) (fun K hK => ?_) (fun K hK => ?_) 
          · go_simp
            refine (fputs_any A n c xs ⟨⟨kd, t, u, o, m0, g⟩, Ar, nr, cr, lr⟩ (by have := HN.out; omega) HSZ.out HXZ.out _ (RD.out _ (HB5.out.trans (HBa50.out.mono HB5.out.size))) (HXR.out _ (HB5.out.trans (HBa50.out.mono HB5.out.size)))).mono ?_
            rintro e wp53 ⟨A6, c6, ps, rfl, hp6, hst6, hb6⟩
            have HBp54 := Lib.hid (HBa50.out.trans (hb6.mono HBa50.out.size))
            have HP6 := Lib.hid hp6
            have HL6 : Hid ((fo Rw.k Rw.t (xs ++ [⟨⟨kd, t, u, o, m0, g⟩, Ar, nr, cr, lr⟩])).length ≤ 40) := (by have := fo_len (k := Rw.k) (t := Rw.t) (xs ++ [⟨⟨kd, t, u, o, m0, g⟩, Ar, nr, cr, lr⟩]); rw [List.length_append, HL.out] at this; simp at this; have := HN.out; show _ ≤ 40; omega)
            have HE56 := Lib.hid (own_below HE51.out hb6)
            have HP55 : Hid (StAv wp53 (some (w8.heap.size)) A6 _ c6 ps) := (StAv.after hst6 (by exact HG52.out))
            have HG57 : Hid (w8.heap.size < wp53.heap.size) := (Nat.lt_of_lt_of_le (by exact HG52.out) hb6.size)
            clear hp6 hst6 hb6
            refine hK _ _ HBp54.out ?_
            clear hK K
            refine h_either 10 12 rfl rfl (by kernel_rfl) (by kernel_rfl) (by kernel_rfl) (fun K hK => ?_) (fun K hK => ?_) 
            · refine wp_append_many (.tmp 26) (.tmp 27) 22 rfl w5.heap.size 26 ig _ 7 88 Try.underlying22 hig hz0 hz1 hz2 rfl (by decide) (.slice (some ⟨w8.heap.size, 0, none⟩) 0 0) (0) ([]) rfl HE56.out (A) (n) (c) wp53.heap.size (rws xs) rfl HAC.out (RD.out _ (HB5.out.trans (HBp54.out.mono HB5.out.size))).1 (rws_one _) (by have := HN.out; unfold maxLen; omega) (by have := HN.out; omega) HBp54.out.size ?_
              intro v28 wq58 hr9 hg9 hv9
              rw [Nat.zero_add, List.nil_append] at hr9
              have HBq59 := Lib.hid (HBp54.out.grown hg9 HBp54.out.size (fun j hj => own_block HE56.out j hj))
              have hg8 : wp53.grownBy wq58 (some (w8.heap.size)) := hg9
              have HP60 := Lib.hid (StAv.grown HP55.out hg8 hv9)
              have HV61 := Lib.hid hr9
              have HG62 : Hid (w8.heap.size < wq58.heap.size) := (Nat.lt_of_lt_of_le (by exact HG57.out) hg9.size)
              clear hr9 hg9 hv9 hg8
              refine hK _ _ HBq59.out ?_
              clear hK K
              refine h_one 12 rfl (by kernel_rfl) (by kernel_rfl) (fun K hK => ?_)
              go_simp
              have hnew := one_new wq58 (.cells #[.int .i64 kd, .string (tx t), .int .u64 u, .slice Ar nr cr, .int .u64 o, .int .u64 m0, .string (tx g)] 26)
              have hbn := HBq59.out.alloc HBq59.out.size (.cells #[.int .i64 kd, .string (tx t), .int .u64 u, .slice Ar nr cr, .int .u64 o, .int .u64 m0, .string (tx g)] 26)
              have hsz : (wq58.alloc (.cells #[.int .i64 kd, .string (tx t), .int .u64 u, .slice Ar nr cr, .int .u64 o, .int .u64 m0, .string (tx g)] 26)).heap.size = wq58.heap.size + 1 := by simp
              have hpn := StAv.alloc HP60.out (.cells #[.int .i64 kd, .string (tx t), .int .u64 u, .slice Ar nr cr, .int .u64 o, .int .u64 m0, .string (tx g)] 26)
              have hvn := World.ownsRow.alloc HV61.out (.cells #[.int .i64 kd, .string (tx t), .int .u64 u, .slice Ar nr cr, .int .u64 o, .int .u64 m0, .string (tx g)] 26)
              generalize (wq58.alloc (.cells #[.int .i64 kd, .string (tx t), .int .u64 u, .slice Ar nr cr, .int .u64 o, .int .u64 m0, .string (tx g)] 26)) = wa63 at *
              have HBa64 := Lib.hid hbn
              have HP65 := Lib.hid hpn
              have HV66 := Lib.hid hvn
              have HR67 : Hid (wa63.heap[wq58.heap.size]? = some (.cells #[.int .i64 kd, .string (tx t), .int .u64 u, .slice Ar nr cr, .int .u64 o, .int .u64 m0, .string (tx g)] 26 (0, 0))) := hnew
              clear hnew hbn hsz hpn hvn
              refine hK _ _ HBa64.out ?_
              clear hK K
              refine h_one 13 rfl (by kernel_rfl) (by kernel_rfl) (fun K hK => ?_)
              have hrd1 : Reads wa63 wa63.heap.size 7 (some ⟨wq58.heap.size, 0, none⟩) 1 (rws [⟨⟨kd, t, u, o, m0, g⟩, Ar, nr, cr, lr⟩]) := ⟨rfl, fun _ => ⟨_, rfl, (Array.getElem?_eq_some_iff.1 HR67.out).1, fun j u hu => by
                rw [Addr.add_mid, Nat.zero_add]
                exact at_cell HR67.out (by simpa [rws, Rw.cells] using hu)⟩⟩
              refine wp_append_many (.tmp 28) (.tmp 30) 22 rfl w5.heap.size 26 ig _ 7 88 Try.underlying22 hig hz0 hz1 hz2 rfl (by decide) (v28) (n) (rws xs) rfl HV66.out (some ⟨wq58.heap.size, 0, none⟩) (1) (1) wa63.heap.size (rws [⟨⟨kd, t, u, o, m0, g⟩, Ar, nr, cr, lr⟩]) rfl (fun h => by cases h) hrd1 (rws_one _) (by have := HN.out; unfold maxLen; omega) (by have := HN.out; omega) HBa64.out.size ?_
              intro v31 wr9 hr9 hg9 hv9
              rw [← rws_app] at hr9
              have HP9 := Lib.hid (StAv.grown HP65.out hg9 hv9)
              have HB9 := Lib.hid (HBa64.out.grown hg9 HBa64.out.size (fun j hj => own_block HV66.out j hj))
              obtain ⟨Ab, cb, rfl, _⟩ := own_slice hr9
              have HRB : Hid (Recs wr9 wr9.heap.size Ab (n + 1) (xs ++ [⟨⟨kd, t, u, o, m0, g⟩, Ar, nr, cr, lr⟩])) := ⟨Reads.of_own hr9, fun z hz => by
                rcases List.mem_append.1 hz with hz | hz
                · exact (RD.out wr9 (HB5.out.trans (HB9.out.mono HB5.out.size))).2 z hz
                · obtain rfl := List.mem_singleton.1 hz
                  exact HXR.out wr9 (HB5.out.trans (HB9.out.mono HB5.out.size))⟩
              clear hr9 hg9 hv9 hrd1
              refine hK _ _ HB9.out ?_
              clear hK K
              refine h_one 14 rfl (by kernel_rfl) (by kernel_rfl) (fun K hK => ?_)
              go_simp
              refine (rof_any Ab (n + 1) cb (xs ++ [⟨⟨kd, t, u, o, m0, g⟩, Ar, nr, cr, lr⟩]) (by have := HN.out; omega) HTL.out _ HRB.out).mono ?_
              rintro e wra ⟨Ac, cc, rfl, hrc, hbc⟩
              have HBC := Lib.hid (HB9.out.trans (hbc.mono HB9.out.size))
              have HRC := Lib.hid hrc
              have HPC := Lib.hid (HP9.out.below hbc).recs
              clear hrc hbc
              refine hK _ _ HBC.out ?_
              clear hK K
              refine h_one 15 rfl (by kernel_rfl) (by kernel_rfl) (fun K hK => ?_)
              go_simp
              refine (rall_any A6 Ac _ _ c6 cc ps _ (by have := HL6.out; unfold maxLen; omega) (by have := HL6.out; unfold maxLen; omega) (HSP.out ps HP6.out _ _ _ _ HPC.out) _ HPC.out HRC.out).mono ?_
              rintro e wrb ⟨he, hbd⟩
              obtain rfl := he.yes HP6.out
              have HBD := Lib.hid (HBC.out.trans (hbd.mono HBC.out.size))
              clear hbd
              refine hK _ _ HBD.out ?_
              clear hK K
              refine h_take 16 (.bool true) rfl (by kernel_rfl) (by kernel_rfl) (by kernel_rfl) (fun _ _ _ h => h) (by kernel_rfl) HBD.out (fun _ _ => by kernel_rfl) ?_
              refine h_take 17 (.bool true) rfl (by kernel_rfl) (by kernel_rfl) (by kernel_rfl) (fun _ _ _ h => h) (by kernel_rfl) HBD.out (fun _ _ => by kernel_rfl) ?_
              refine h_take 18 (.slice A n c) rfl (by kernel_rfl) (by kernel_rfl) (by kernel_rfl) (fun _ _ _ h => h) (by kernel_rfl) HBD.out (fun _ _ => by kernel_rfl) ?_
              refine h_take 20 (.slice A n c) rfl (by kernel_rfl) (by kernel_rfl) (by kernel_rfl) (fun _ _ _ h => h) (by kernel_rfl) HBD.out (fun _ _ => by kernel_rfl) ?_
              refine h_one 19 rfl (by kernel_rfl) (by kernel_rfl) (fun K hK => ?_)
              go_simp
              refine (right_any A n c xs (by have := HN.out; omega) _ (RD.out _ (HB5.out.trans (HBD.out.mono HB5.out.size)))).mono ?_
              rintro e wrc ⟨⟨q1, hq1, rfl⟩, hbe⟩
              have HBE := Lib.hid (HBD.out.trans (hbe.mono HBD.out.size))
              have HQ1 := Lib.hid hq1
              clear hbe hq1
              refine hK _ _ HBE.out ?_
              clear hK K
              refine h_one 21 rfl (by kernel_rfl) (by kernel_rfl) (fun K hK => ?_)
              go_simp
              refine (rright_any A n c xs (by have := HN.out; omega) (fun x hx => (HSZ.out x hx).1) _ (RD.out _ (HB5.out.trans (HBE.out.mono HB5.out.size)))).mono ?_
              rintro e wrd ⟨⟨q2, hq2, rfl⟩, hbf⟩
              obtain rfl : q2 = q1 := Bool.eq_iff_iff.2 (hq2.trans HQ1.out.symm)
              have HBF := Lib.hid (HBE.out.trans (hbf.mono HBE.out.size))
              clear hbf hq2
              refine hK _ _ HBF.out ?_
              clear hK K
              refine h_take 22 (.bool true) rfl (by kernel_rfl) (by kernel_rfl) (by kernel_rfl) (fun _ _ _ h => h) (by kernel_rfl) HBF.out (by intro v hv; go_simp) ?_
              refine h_take 23 (.bool true) rfl (by kernel_rfl) (by kernel_rfl) (by kernel_rfl) (fun _ _ _ h => h) (by kernel_rfl) HBF.out (fun _ _ => by kernel_rfl) ?_
              refine h_take 24 (.bool true) rfl (by kernel_rfl) (by kernel_rfl) (by kernel_rfl) (fun _ _ _ h => h) (by kernel_rfl) HBF.out (fun _ _ => by kernel_rfl) ?_
              refine wpAnyH_done (by kernel_rfl) ?_ _
              go_simp
              rw [HM.out]
              exact ⟨_, _, _, _, _, _, _, _, _, _, _, _, _, _, _, _, _, _, _, _, _, _, _, _, _, _, _, _, _, _, _, _, _, _, _, _, _, _, _, rfl, HBF.out⟩
            · go_simp
              have hnew := one_new wp53 (.cells #[.int .i64 kd, .string (tx t), .int .u64 u, .slice Ar nr cr, .int .u64 o, .int .u64 m0, .string (tx g)] 26)
              have hbn := HBp54.out.alloc HBp54.out.size (.cells #[.int .i64 kd, .string (tx t), .int .u64 u, .slice Ar nr cr, .int .u64 o, .int .u64 m0, .string (tx g)] 26)
              have hsz : (wp53.alloc (.cells #[.int .i64 kd, .string (tx t), .int .u64 u, .slice Ar nr cr, .int .u64 o, .int .u64 m0, .string (tx g)] 26)).heap.size = wp53.heap.size + 1 := by simp
              have hen := World.ownsRow.alloc HE56.out (.cells #[.int .i64 kd, .string (tx t), .int .u64 u, .slice Ar nr cr, .int .u64 o, .int .u64 m0, .string (tx g)] 26)
              have hpn := StAv.alloc HP55.out (.cells #[.int .i64 kd, .string (tx t), .int .u64 u, .slice Ar nr cr, .int .u64 o, .int .u64 m0, .string (tx g)] 26)
              generalize (wp53.alloc (.cells #[.int .i64 kd, .string (tx t), .int .u64 u, .slice Ar nr cr, .int .u64 o, .int .u64 m0, .string (tx g)] 26)) = wa68 at *
              have HBa69 := Lib.hid hbn
              have HE70 := Lib.hid hen
              have HP71 := Lib.hid hpn
              have HR72 : Hid (wa68.heap[wp53.heap.size]? = some (.cells #[.int .i64 kd, .string (tx t), .int .u64 u, .slice Ar nr cr, .int .u64 o, .int .u64 m0, .string (tx g)] 26 (0, 0))) := hnew
              have HG73 : Hid (w8.heap.size < wa68.heap.size) := (by have h0 : w8.heap.size < wp53.heap.size := (by exact HG57.out); show _ < _; omega)
              have HN74 : Hid (wp53.heap.size ≠ w8.heap.size) := (by have h0 : w8.heap.size < wp53.heap.size := (by exact HG57.out); show _ ≠ _; omega)
              clear hnew hbn hsz hen hpn
              refine hK _ _ HBa69.out ?_
              clear hK K
              refine h_one 10 rfl (by kernel_rfl) (by kernel_rfl) (fun K hK => ?_)
              refine wp_append_many (.tmp 26) (.tmp 27) 22 rfl w5.heap.size 26 ig _ 7 88 Try.underlying22 hig hz0 hz1 hz2 rfl (by decide) (.slice (some ⟨w8.heap.size, 0, none⟩) 0 0) (0) ([]) rfl HE70.out (A) (n) (c) wa68.heap.size (rws xs) rfl HAC.out (RD.out _ (HB5.out.trans (HBa69.out.mono HB5.out.size))).1 (rws_one _) (by have := HN.out; unfold maxLen; omega) (by have := HN.out; omega) HBa69.out.size ?_
              intro v28 wq75 hr9 hg9 hv9
              rw [Nat.zero_add, List.nil_append] at hr9
              have HBq76 := Lib.hid (HBa69.out.grown hg9 HBa69.out.size (fun j hj => own_block HE70.out j hj))
              have hg8 : wa68.grownBy wq75 (some (w8.heap.size)) := hg9
              have HP77 := Lib.hid (StAv.grown HP71.out hg8 hv9)
              have HR78 : Hid (wq75.heap[wp53.heap.size]? = some (.cells #[.int .i64 kd, .string (tx t), .int .u64 u, .slice Ar nr cr, .int .u64 o, .int .u64 m0, .string (tx g)] 26 (0, 0))) := ((hg8.block (wp53.heap.size) (Array.getElem?_eq_some_iff.1 HR72.out).1 (fun e => HN74.out (by injection e))).trans HR72.out)
              have HV79 := Lib.hid hr9
              have HG80 : Hid (w8.heap.size < wq75.heap.size) := (Nat.lt_of_lt_of_le (by exact HG73.out) hg9.size)
              clear hr9 hg9 hv9 hg8
              refine hK _ _ HBq76.out ?_
              clear hK K
              refine h_one 13 rfl (by kernel_rfl) (by kernel_rfl) (fun K hK => ?_)
              have hrd1 : Reads wq75 wq75.heap.size 7 (some ⟨wp53.heap.size, 0, none⟩) 1 (rws [⟨⟨kd, t, u, o, m0, g⟩, Ar, nr, cr, lr⟩]) := ⟨rfl, fun _ => ⟨_, rfl, (Array.getElem?_eq_some_iff.1 HR78.out).1, fun j u hu => by
                rw [Addr.add_mid, Nat.zero_add]
                exact at_cell HR78.out (by simpa [rws, Rw.cells] using hu)⟩⟩
              refine wp_append_many (.tmp 28) (.tmp 30) 22 rfl w5.heap.size 26 ig _ 7 88 Try.underlying22 hig hz0 hz1 hz2 rfl (by decide) (v28) (n) (rws xs) rfl HV79.out (some ⟨wp53.heap.size, 0, none⟩) (1) (1) wq75.heap.size (rws [⟨⟨kd, t, u, o, m0, g⟩, Ar, nr, cr, lr⟩]) rfl (fun h => by cases h) hrd1 (rws_one _) (by have := HN.out; unfold maxLen; omega) (by have := HN.out; omega) HBq76.out.size ?_
              intro v31 wr9 hr9 hg9 hv9
              rw [← rws_app] at hr9
              have HP9 := Lib.hid (StAv.grown HP77.out hg9 hv9)
              have HB9 := Lib.hid (HBq76.out.grown hg9 HBq76.out.size (fun j hj => own_block HV79.out j hj))
              obtain ⟨Ab, cb, rfl, _⟩ := own_slice hr9
              have HRB : Hid (Recs wr9 wr9.heap.size Ab (n + 1) (xs ++ [⟨⟨kd, t, u, o, m0, g⟩, Ar, nr, cr, lr⟩])) := ⟨Reads.of_own hr9, fun z hz => by
                rcases List.mem_append.1 hz with hz | hz
                · exact (RD.out wr9 (HB5.out.trans (HB9.out.mono HB5.out.size))).2 z hz
                · obtain rfl := List.mem_singleton.1 hz
                  exact HXR.out wr9 (HB5.out.trans (HB9.out.mono HB5.out.size))⟩
              clear hr9 hg9 hv9 hrd1
              refine hK _ _ HB9.out ?_
              clear hK K
              refine h_one 14 rfl (by kernel_rfl) (by kernel_rfl) (fun K hK => ?_)
              go_simp
              refine (rof_any Ab (n + 1) cb (xs ++ [⟨⟨kd, t, u, o, m0, g⟩, Ar, nr, cr, lr⟩]) (by have := HN.out; omega) HTL.out _ HRB.out).mono ?_
              rintro e wra ⟨Ac, cc, rfl, hrc, hbc⟩
              have HBC := Lib.hid (HB9.out.trans (hbc.mono HB9.out.size))
              have HRC := Lib.hid hrc
              have HPC := Lib.hid (HP9.out.below hbc).recs
              clear hrc hbc
              refine hK _ _ HBC.out ?_
              clear hK K
              refine h_one 15 rfl (by kernel_rfl) (by kernel_rfl) (fun K hK => ?_)
              go_simp
              refine (rall_any A6 Ac _ _ c6 cc ps _ (by have := HL6.out; unfold maxLen; omega) (by have := HL6.out; unfold maxLen; omega) (HSP.out ps HP6.out _ _ _ _ HPC.out) _ HPC.out HRC.out).mono ?_
              rintro e wrb ⟨he, hbd⟩
              obtain rfl := he.yes HP6.out
              have HBD := Lib.hid (HBC.out.trans (hbd.mono HBC.out.size))
              clear hbd
              refine hK _ _ HBD.out ?_
              clear hK K
              refine h_take 16 (.bool true) rfl (by kernel_rfl) (by kernel_rfl) (by kernel_rfl) (fun _ _ _ h => h) (by kernel_rfl) HBD.out (fun _ _ => by kernel_rfl) ?_
              refine h_take 17 (.bool true) rfl (by kernel_rfl) (by kernel_rfl) (by kernel_rfl) (fun _ _ _ h => h) (by kernel_rfl) HBD.out (fun _ _ => by kernel_rfl) ?_
              refine h_take 18 (.slice A n c) rfl (by kernel_rfl) (by kernel_rfl) (by kernel_rfl) (fun _ _ _ h => h) (by kernel_rfl) HBD.out (fun _ _ => by kernel_rfl) ?_
              refine h_take 20 (.slice A n c) rfl (by kernel_rfl) (by kernel_rfl) (by kernel_rfl) (fun _ _ _ h => h) (by kernel_rfl) HBD.out (fun _ _ => by kernel_rfl) ?_
              refine h_one 19 rfl (by kernel_rfl) (by kernel_rfl) (fun K hK => ?_)
              go_simp
              refine (right_any A n c xs (by have := HN.out; omega) _ (RD.out _ (HB5.out.trans (HBD.out.mono HB5.out.size)))).mono ?_
              rintro e wrc ⟨⟨q1, hq1, rfl⟩, hbe⟩
              have HBE := Lib.hid (HBD.out.trans (hbe.mono HBD.out.size))
              have HQ1 := Lib.hid hq1
              clear hbe hq1
              refine hK _ _ HBE.out ?_
              clear hK K
              refine h_one 21 rfl (by kernel_rfl) (by kernel_rfl) (fun K hK => ?_)
              go_simp
              refine (rright_any A n c xs (by have := HN.out; omega) (fun x hx => (HSZ.out x hx).1) _ (RD.out _ (HB5.out.trans (HBE.out.mono HB5.out.size)))).mono ?_
              rintro e wrd ⟨⟨q2, hq2, rfl⟩, hbf⟩
              obtain rfl : q2 = q1 := Bool.eq_iff_iff.2 (hq2.trans HQ1.out.symm)
              have HBF := Lib.hid (HBE.out.trans (hbf.mono HBE.out.size))
              clear hbf hq2
              refine hK _ _ HBF.out ?_
              clear hK K
              refine h_take 22 (.bool true) rfl (by kernel_rfl) (by kernel_rfl) (by kernel_rfl) (fun _ _ _ h => h) (by kernel_rfl) HBF.out (by intro v hv; go_simp) ?_
              refine h_take 23 (.bool true) rfl (by kernel_rfl) (by kernel_rfl) (by kernel_rfl) (fun _ _ _ h => h) (by kernel_rfl) HBF.out (fun _ _ => by kernel_rfl) ?_
              refine h_take 24 (.bool true) rfl (by kernel_rfl) (by kernel_rfl) (by kernel_rfl) (fun _ _ _ h => h) (by kernel_rfl) HBF.out (fun _ _ => by kernel_rfl) ?_
              refine wpAnyH_done (by kernel_rfl) ?_ _
              go_simp
              rw [HM.out]
              exact ⟨_, _, _, _, _, _, _, _, _, _, _, _, _, _, _, _, _, _, _, _, _, _, _, _, _, _, _, _, _, _, _, _, _, _, _, _, _, _, _, rfl, HBF.out⟩
          · go_simp
            have hnew := one_new wa49 (.cells #[.int .i64 kd, .string (tx t), .int .u64 u, .slice Ar nr cr, .int .u64 o, .int .u64 m0, .string (tx g)] 26)
            have hbn := HBa50.out.alloc HBa50.out.size (.cells #[.int .i64 kd, .string (tx t), .int .u64 u, .slice Ar nr cr, .int .u64 o, .int .u64 m0, .string (tx g)] 26)
            have hsz : (wa49.alloc (.cells #[.int .i64 kd, .string (tx t), .int .u64 u, .slice Ar nr cr, .int .u64 o, .int .u64 m0, .string (tx g)] 26)).heap.size = wa49.heap.size + 1 := by simp
            have hen := World.ownsRow.alloc HE51.out (.cells #[.int .i64 kd, .string (tx t), .int .u64 u, .slice Ar nr cr, .int .u64 o, .int .u64 m0, .string (tx g)] 26)
            generalize (wa49.alloc (.cells #[.int .i64 kd, .string (tx t), .int .u64 u, .slice Ar nr cr, .int .u64 o, .int .u64 m0, .string (tx g)] 26)) = wa81 at *
            have HBa82 := Lib.hid hbn
            have HE83 := Lib.hid hen
            have HR84 : Hid (wa81.heap[wa49.heap.size]? = some (.cells #[.int .i64 kd, .string (tx t), .int .u64 u, .slice Ar nr cr, .int .u64 o, .int .u64 m0, .string (tx g)] 26 (0, 0))) := hnew
            have HG85 : Hid (w8.heap.size < wa81.heap.size) := (by have h0 : w8.heap.size < wa49.heap.size := (by exact HG52.out); show _ < _; omega)
            have HN86 : Hid (wa49.heap.size ≠ w8.heap.size) := (by have h0 : w8.heap.size < wa49.heap.size := (by exact HG52.out); show _ ≠ _; omega)
            clear hnew hbn hsz hen
            refine hK _ _ HBa82.out ?_
            clear hK K
            refine h_one 7 rfl (by kernel_rfl) (by kernel_rfl) (fun K hK => ?_)
            go_simp
            refine (fputs_any A n c xs ⟨⟨kd, t, u, o, m0, g⟩, Ar, nr, cr, lr⟩ (by have := HN.out; omega) HSZ.out HXZ.out _ (RD.out _ (HB5.out.trans (HBa82.out.mono HB5.out.size))) (HXR.out _ (HB5.out.trans (HBa82.out.mono HB5.out.size)))).mono ?_
            rintro e wp87 ⟨A6, c6, ps, rfl, hp6, hst6, hb6⟩
            have HBp88 := Lib.hid (HBa82.out.trans (hb6.mono HBa82.out.size))
            have HP6 := Lib.hid hp6
            have HL6 : Hid ((fo Rw.k Rw.t (xs ++ [⟨⟨kd, t, u, o, m0, g⟩, Ar, nr, cr, lr⟩])).length ≤ 40) := (by have := fo_len (k := Rw.k) (t := Rw.t) (xs ++ [⟨⟨kd, t, u, o, m0, g⟩, Ar, nr, cr, lr⟩]); rw [List.length_append, HL.out] at this; simp at this; have := HN.out; show _ ≤ 40; omega)
            have HE90 := Lib.hid (own_below HE83.out hb6)
            have HP89 : Hid (StAv wp87 (some (w8.heap.size)) A6 _ c6 ps) := (StAv.after hst6 (by exact HG85.out))
            have HR91 : Hid (wp87.heap[wa49.heap.size]? = some (.cells #[.int .i64 kd, .string (tx t), .int .u64 u, .slice Ar nr cr, .int .u64 o, .int .u64 m0, .string (tx g)] 26 (0, 0))) := ((hb6.block (wa49.heap.size) (Array.getElem?_eq_some_iff.1 HR84.out).1).trans HR84.out)
            have HG92 : Hid (w8.heap.size < wp87.heap.size) := (Nat.lt_of_lt_of_le (by exact HG85.out) hb6.size)
            clear hp6 hst6 hb6
            refine hK _ _ HBp88.out ?_
            clear hK K
            refine h_one 10 rfl (by kernel_rfl) (by kernel_rfl) (fun K hK => ?_)
            refine wp_append_many (.tmp 26) (.tmp 27) 22 rfl w5.heap.size 26 ig _ 7 88 Try.underlying22 hig hz0 hz1 hz2 rfl (by decide) (.slice (some ⟨w8.heap.size, 0, none⟩) 0 0) (0) ([]) rfl HE90.out (A) (n) (c) wp87.heap.size (rws xs) rfl HAC.out (RD.out _ (HB5.out.trans (HBp88.out.mono HB5.out.size))).1 (rws_one _) (by have := HN.out; unfold maxLen; omega) (by have := HN.out; omega) HBp88.out.size ?_
            intro v28 wq93 hr9 hg9 hv9
            rw [Nat.zero_add, List.nil_append] at hr9
            have HBq94 := Lib.hid (HBp88.out.grown hg9 HBp88.out.size (fun j hj => own_block HE90.out j hj))
            have hg8 : wp87.grownBy wq93 (some (w8.heap.size)) := hg9
            have HP95 := Lib.hid (StAv.grown HP89.out hg8 hv9)
            have HR96 : Hid (wq93.heap[wa49.heap.size]? = some (.cells #[.int .i64 kd, .string (tx t), .int .u64 u, .slice Ar nr cr, .int .u64 o, .int .u64 m0, .string (tx g)] 26 (0, 0))) := ((hg8.block (wa49.heap.size) (Array.getElem?_eq_some_iff.1 HR91.out).1 (fun e => HN86.out (by injection e))).trans HR91.out)
            have HV97 := Lib.hid hr9
            have HG98 : Hid (w8.heap.size < wq93.heap.size) := (Nat.lt_of_lt_of_le (by exact HG92.out) hg9.size)
            clear hr9 hg9 hv9 hg8
            refine hK _ _ HBq94.out ?_
            clear hK K
            refine h_one 13 rfl (by kernel_rfl) (by kernel_rfl) (fun K hK => ?_)
            have hrd1 : Reads wq93 wq93.heap.size 7 (some ⟨wa49.heap.size, 0, none⟩) 1 (rws [⟨⟨kd, t, u, o, m0, g⟩, Ar, nr, cr, lr⟩]) := ⟨rfl, fun _ => ⟨_, rfl, (Array.getElem?_eq_some_iff.1 HR96.out).1, fun j u hu => by
              rw [Addr.add_mid, Nat.zero_add]
              exact at_cell HR96.out (by simpa [rws, Rw.cells] using hu)⟩⟩
            refine wp_append_many (.tmp 28) (.tmp 30) 22 rfl w5.heap.size 26 ig _ 7 88 Try.underlying22 hig hz0 hz1 hz2 rfl (by decide) (v28) (n) (rws xs) rfl HV97.out (some ⟨wa49.heap.size, 0, none⟩) (1) (1) wq93.heap.size (rws [⟨⟨kd, t, u, o, m0, g⟩, Ar, nr, cr, lr⟩]) rfl (fun h => by cases h) hrd1 (rws_one _) (by have := HN.out; unfold maxLen; omega) (by have := HN.out; omega) HBq94.out.size ?_
            intro v31 wr9 hr9 hg9 hv9
            rw [← rws_app] at hr9
            have HP9 := Lib.hid (StAv.grown HP95.out hg9 hv9)
            have HB9 := Lib.hid (HBq94.out.grown hg9 HBq94.out.size (fun j hj => own_block HV97.out j hj))
            obtain ⟨Ab, cb, rfl, _⟩ := own_slice hr9
            have HRB : Hid (Recs wr9 wr9.heap.size Ab (n + 1) (xs ++ [⟨⟨kd, t, u, o, m0, g⟩, Ar, nr, cr, lr⟩])) := ⟨Reads.of_own hr9, fun z hz => by
              rcases List.mem_append.1 hz with hz | hz
              · exact (RD.out wr9 (HB5.out.trans (HB9.out.mono HB5.out.size))).2 z hz
              · obtain rfl := List.mem_singleton.1 hz
                exact HXR.out wr9 (HB5.out.trans (HB9.out.mono HB5.out.size))⟩
            clear hr9 hg9 hv9 hrd1
            refine hK _ _ HB9.out ?_
            clear hK K
            refine h_one 14 rfl (by kernel_rfl) (by kernel_rfl) (fun K hK => ?_)
            go_simp
            refine (rof_any Ab (n + 1) cb (xs ++ [⟨⟨kd, t, u, o, m0, g⟩, Ar, nr, cr, lr⟩]) (by have := HN.out; omega) HTL.out _ HRB.out).mono ?_
            rintro e wra ⟨Ac, cc, rfl, hrc, hbc⟩
            have HBC := Lib.hid (HB9.out.trans (hbc.mono HB9.out.size))
            have HRC := Lib.hid hrc
            have HPC := Lib.hid (HP9.out.below hbc).recs
            clear hrc hbc
            refine hK _ _ HBC.out ?_
            clear hK K
            refine h_one 15 rfl (by kernel_rfl) (by kernel_rfl) (fun K hK => ?_)
            go_simp
            refine (rall_any A6 Ac _ _ c6 cc ps _ (by have := HL6.out; unfold maxLen; omega) (by have := HL6.out; unfold maxLen; omega) (HSP.out ps HP6.out _ _ _ _ HPC.out) _ HPC.out HRC.out).mono ?_
            rintro e wrb ⟨he, hbd⟩
            obtain rfl := he.yes HP6.out
            have HBD := Lib.hid (HBC.out.trans (hbd.mono HBC.out.size))
            clear hbd
            refine hK _ _ HBD.out ?_
            clear hK K
            refine h_take 16 (.bool true) rfl (by kernel_rfl) (by kernel_rfl) (by kernel_rfl) (fun _ _ _ h => h) (by kernel_rfl) HBD.out (fun _ _ => by kernel_rfl) ?_
            refine h_take 17 (.bool true) rfl (by kernel_rfl) (by kernel_rfl) (by kernel_rfl) (fun _ _ _ h => h) (by kernel_rfl) HBD.out (fun _ _ => by kernel_rfl) ?_
            refine h_take 18 (.slice A n c) rfl (by kernel_rfl) (by kernel_rfl) (by kernel_rfl) (fun _ _ _ h => h) (by kernel_rfl) HBD.out (fun _ _ => by kernel_rfl) ?_
            refine h_take 20 (.slice A n c) rfl (by kernel_rfl) (by kernel_rfl) (by kernel_rfl) (fun _ _ _ h => h) (by kernel_rfl) HBD.out (fun _ _ => by kernel_rfl) ?_
            refine h_one 19 rfl (by kernel_rfl) (by kernel_rfl) (fun K hK => ?_)
            go_simp
            refine (right_any A n c xs (by have := HN.out; omega) _ (RD.out _ (HB5.out.trans (HBD.out.mono HB5.out.size)))).mono ?_
            rintro e wrc ⟨⟨q1, hq1, rfl⟩, hbe⟩
            have HBE := Lib.hid (HBD.out.trans (hbe.mono HBD.out.size))
            have HQ1 := Lib.hid hq1
            clear hbe hq1
            refine hK _ _ HBE.out ?_
            clear hK K
            refine h_one 21 rfl (by kernel_rfl) (by kernel_rfl) (fun K hK => ?_)
            go_simp
            refine (rright_any A n c xs (by have := HN.out; omega) (fun x hx => (HSZ.out x hx).1) _ (RD.out _ (HB5.out.trans (HBE.out.mono HB5.out.size)))).mono ?_
            rintro e wrd ⟨⟨q2, hq2, rfl⟩, hbf⟩
            obtain rfl : q2 = q1 := Bool.eq_iff_iff.2 (hq2.trans HQ1.out.symm)
            have HBF := Lib.hid (HBE.out.trans (hbf.mono HBE.out.size))
            clear hbf hq2
            refine hK _ _ HBF.out ?_
            clear hK K
            refine h_take 22 (.bool true) rfl (by kernel_rfl) (by kernel_rfl) (by kernel_rfl) (fun _ _ _ h => h) (by kernel_rfl) HBF.out (by intro v hv; go_simp) ?_
            refine h_take 23 (.bool true) rfl (by kernel_rfl) (by kernel_rfl) (by kernel_rfl) (fun _ _ _ h => h) (by kernel_rfl) HBF.out (fun _ _ => by kernel_rfl) ?_
            refine h_take 24 (.bool true) rfl (by kernel_rfl) (by kernel_rfl) (by kernel_rfl) (fun _ _ _ h => h) (by kernel_rfl) HBF.out (fun _ _ => by kernel_rfl) ?_
            refine wpAnyH_done (by kernel_rfl) ?_ _
            go_simp
            rw [HM.out]
            exact ⟨_, _, _, _, _, _, _, _, _, _, _, _, _, _, _, _, _, _, _, _, _, _, _, _, _, _, _, _, _, _, _, _, _, _, _, _, _, _, _, rfl, HBF.out⟩
        · go_simp
          have hnew := one_new w8 (.cells #[.int .i64 kd, .string (tx t), .int .u64 u, .slice Ar nr cr, .int .u64 o, .int .u64 m0, .string (tx g)] 26)
          have hbn := HB8.out.alloc HB8.out.size (.cells #[.int .i64 kd, .string (tx t), .int .u64 u, .slice Ar nr cr, .int .u64 o, .int .u64 m0, .string (tx g)] 26)
          have hsz : (w8.alloc (.cells #[.int .i64 kd, .string (tx t), .int .u64 u, .slice Ar nr cr, .int .u64 o, .int .u64 m0, .string (tx g)] 26)).heap.size = w8.heap.size + 1 := by simp
          generalize (w8.alloc (.cells #[.int .i64 kd, .string (tx t), .int .u64 u, .slice Ar nr cr, .int .u64 o, .int .u64 m0, .string (tx g)] 26)) = wa99 at *
          have HBa100 := Lib.hid hbn
          have HR101 : Hid (wa99.heap[w8.heap.size]? = some (.cells #[.int .i64 kd, .string (tx t), .int .u64 u, .slice Ar nr cr, .int .u64 o, .int .u64 m0, .string (tx g)] 26 (0, 0))) := hnew
          clear hnew hbn hsz
          refine hK _ _ HBa100.out ?_
          clear hK K
          refine h_either 7 8 rfl rfl (by kernel_rfl) (by kernel_rfl) (by kernel_rfl) (fun K hK => ?_) (fun K hK => ?_) 
          · go_simp
            refine (fputs_any A n c xs ⟨⟨kd, t, u, o, m0, g⟩, Ar, nr, cr, lr⟩ (by have := HN.out; omega) HSZ.out HXZ.out _ (RD.out _ (HB5.out.trans (HBa100.out.mono HB5.out.size))) (HXR.out _ (HB5.out.trans (HBa100.out.mono HB5.out.size)))).mono ?_
            rintro e wp102 ⟨A6, c6, ps, rfl, hp6, hst6, hb6⟩
            have HBp103 := Lib.hid (HBa100.out.trans (hb6.mono HBa100.out.size))
            have HP6 := Lib.hid hp6
            have HL6 : Hid ((fo Rw.k Rw.t (xs ++ [⟨⟨kd, t, u, o, m0, g⟩, Ar, nr, cr, lr⟩])).length ≤ 40) := (by have := fo_len (k := Rw.k) (t := Rw.t) (xs ++ [⟨⟨kd, t, u, o, m0, g⟩, Ar, nr, cr, lr⟩]); rw [List.length_append, HL.out] at this; simp at this; have := HN.out; show _ ≤ 40; omega)
            have HP104 := Lib.hid hst6
            have HR105 : Hid (wp102.heap[w8.heap.size]? = some (.cells #[.int .i64 kd, .string (tx t), .int .u64 u, .slice Ar nr cr, .int .u64 o, .int .u64 m0, .string (tx g)] 26 (0, 0))) := ((hb6.block (w8.heap.size) (Array.getElem?_eq_some_iff.1 HR101.out).1).trans HR101.out)
            clear hp6 hst6 hb6
            refine hK _ _ HBp103.out ?_
            clear hK K
            refine h_one 8 rfl (by kernel_rfl) (by kernel_rfl) (fun K hK => ?_)
            go_simp
            have hnew := one_new wp102 (.cells #[] 26)
            have hbn := HBp103.out.alloc HBp103.out.size (.cells #[] 26)
            have hsz : (wp102.alloc (.cells #[] 26)).heap.size = wp102.heap.size + 1 := by simp
            have hen := own_less (own_emptyN wp102 26 7) HBp103.out.size
            have hpn := StAv.ahead HP104.out (.cells #[] 26)
            have hrn := (Below.heap_alloc wp102 (.cells #[] 26) (w8.heap.size) (Array.getElem?_eq_some_iff.1 HR105.out).1).trans HR105.out
            generalize (wp102.alloc (.cells #[] 26)) = wa106 at *
            have HBa107 := Lib.hid hbn
            have HE108 := Lib.hid hen
            have HP109 := Lib.hid hpn
            have HR110 := Lib.hid hrn
            have HG111 : Hid (wp102.heap.size < wa106.heap.size) := (by show _ < _; omega)
            have HN112 : Hid (w8.heap.size ≠ wp102.heap.size) := (by have h0 := (Array.getElem?_eq_some_iff.1 HR105.out).1; show _ ≠ _; omega)
            clear hnew hbn hsz hen hpn hrn
            refine hK _ _ HBa107.out ?_
            clear hK K
            refine h_one 10 rfl (by kernel_rfl) (by kernel_rfl) (fun K hK => ?_)
            refine wp_append_many (.tmp 26) (.tmp 27) 22 rfl w5.heap.size 26 ig _ 7 88 Try.underlying22 hig hz0 hz1 hz2 rfl (by decide) (.slice (some ⟨wp102.heap.size, 0, none⟩) 0 0) (0) ([]) rfl HE108.out (A) (n) (c) wa106.heap.size (rws xs) rfl HAC.out (RD.out _ (HB5.out.trans (HBa107.out.mono HB5.out.size))).1 (rws_one _) (by have := HN.out; unfold maxLen; omega) (by have := HN.out; omega) HBa107.out.size ?_
            intro v28 wq113 hr9 hg9 hv9
            rw [Nat.zero_add, List.nil_append] at hr9
            have HBq114 := Lib.hid (HBa107.out.grown hg9 HBa107.out.size (fun j hj => own_block HE108.out j hj))
            have hg8 : wa106.grownBy wq113 (some (wp102.heap.size)) := hg9
            have HP115 := Lib.hid (StAv.grown HP109.out hg8 hv9)
            have HR116 : Hid (wq113.heap[w8.heap.size]? = some (.cells #[.int .i64 kd, .string (tx t), .int .u64 u, .slice Ar nr cr, .int .u64 o, .int .u64 m0, .string (tx g)] 26 (0, 0))) := ((hg8.block (w8.heap.size) (Array.getElem?_eq_some_iff.1 HR110.out).1 (fun e => HN112.out (by injection e))).trans HR110.out)
            have HV117 := Lib.hid hr9
            have HG118 : Hid (wp102.heap.size < wq113.heap.size) := (Nat.lt_of_lt_of_le (by exact HG111.out) hg9.size)
            clear hr9 hg9 hv9 hg8
            refine hK _ _ HBq114.out ?_
            clear hK K
            refine h_one 13 rfl (by kernel_rfl) (by kernel_rfl) (fun K hK => ?_)
            have hrd1 : Reads wq113 wq113.heap.size 7 (some ⟨w8.heap.size, 0, none⟩) 1 (rws [⟨⟨kd, t, u, o, m0, g⟩, Ar, nr, cr, lr⟩]) := ⟨rfl, fun _ => ⟨_, rfl, (Array.getElem?_eq_some_iff.1 HR116.out).1, fun j u hu => by
              rw [Addr.add_mid, Nat.zero_add]
              exact at_cell HR116.out (by simpa [rws, Rw.cells] using hu)⟩⟩
            refine wp_append_many (.tmp 28) (.tmp 30) 22 rfl w5.heap.size 26 ig _ 7 88 Try.underlying22 hig hz0 hz1 hz2 rfl (by decide) (v28) (n) (rws xs) rfl HV117.out (some ⟨w8.heap.size, 0, none⟩) (1) (1) wq113.heap.size (rws [⟨⟨kd, t, u, o, m0, g⟩, Ar, nr, cr, lr⟩]) rfl (fun h => by cases h) hrd1 (rws_one _) (by have := HN.out; unfold maxLen; omega) (by have := HN.out; omega) HBq114.out.size ?_
            intro v31 wr9 hr9 hg9 hv9
            rw [← rws_app] at hr9
            have HP9 := Lib.hid (StAv.grown HP115.out hg9 hv9)
            have HB9 := Lib.hid (HBq114.out.grown hg9 HBq114.out.size (fun j hj => own_block HV117.out j hj))
            obtain ⟨Ab, cb, rfl, _⟩ := own_slice hr9
            have HRB : Hid (Recs wr9 wr9.heap.size Ab (n + 1) (xs ++ [⟨⟨kd, t, u, o, m0, g⟩, Ar, nr, cr, lr⟩])) := ⟨Reads.of_own hr9, fun z hz => by
              rcases List.mem_append.1 hz with hz | hz
              · exact (RD.out wr9 (HB5.out.trans (HB9.out.mono HB5.out.size))).2 z hz
              · obtain rfl := List.mem_singleton.1 hz
                exact HXR.out wr9 (HB5.out.trans (HB9.out.mono HB5.out.size))⟩
            clear hr9 hg9 hv9 hrd1
            refine hK _ _ HB9.out ?_
            clear hK K
            refine h_one 14 rfl (by kernel_rfl) (by kernel_rfl) (fun K hK => ?_)
            go_simp
            refine (rof_any Ab (n + 1) cb (xs ++ [⟨⟨kd, t, u, o, m0, g⟩, Ar, nr, cr, lr⟩]) (by have := HN.out; omega) HTL.out _ HRB.out).mono ?_
            rintro e wra ⟨Ac, cc, rfl, hrc, hbc⟩
            have HBC := Lib.hid (HB9.out.trans (hbc.mono HB9.out.size))
            have HRC := Lib.hid hrc
            have HPC := Lib.hid (HP9.out.below hbc).recs
            clear hrc hbc
            refine hK _ _ HBC.out ?_
            clear hK K
            refine h_one 15 rfl (by kernel_rfl) (by kernel_rfl) (fun K hK => ?_)
            go_simp
            refine (rall_any A6 Ac _ _ c6 cc ps _ (by have := HL6.out; unfold maxLen; omega) (by have := HL6.out; unfold maxLen; omega) (HSP.out ps HP6.out _ _ _ _ HPC.out) _ HPC.out HRC.out).mono ?_
            rintro e wrb ⟨he, hbd⟩
            obtain rfl := he.yes HP6.out
            have HBD := Lib.hid (HBC.out.trans (hbd.mono HBC.out.size))
            clear hbd
            refine hK _ _ HBD.out ?_
            clear hK K
            refine h_take 16 (.bool true) rfl (by kernel_rfl) (by kernel_rfl) (by kernel_rfl) (fun _ _ _ h => h) (by kernel_rfl) HBD.out (fun _ _ => by kernel_rfl) ?_
            refine h_take 17 (.bool true) rfl (by kernel_rfl) (by kernel_rfl) (by kernel_rfl) (fun _ _ _ h => h) (by kernel_rfl) HBD.out (fun _ _ => by kernel_rfl) ?_
            refine h_take 18 (.slice A n c) rfl (by kernel_rfl) (by kernel_rfl) (by kernel_rfl) (fun _ _ _ h => h) (by kernel_rfl) HBD.out (fun _ _ => by kernel_rfl) ?_
            refine h_take 20 (.slice A n c) rfl (by kernel_rfl) (by kernel_rfl) (by kernel_rfl) (fun _ _ _ h => h) (by kernel_rfl) HBD.out (fun _ _ => by kernel_rfl) ?_
            refine h_one 19 rfl (by kernel_rfl) (by kernel_rfl) (fun K hK => ?_)
            go_simp
            refine (right_any A n c xs (by have := HN.out; omega) _ (RD.out _ (HB5.out.trans (HBD.out.mono HB5.out.size)))).mono ?_
            rintro e wrc ⟨⟨q1, hq1, rfl⟩, hbe⟩
            have HBE := Lib.hid (HBD.out.trans (hbe.mono HBD.out.size))
            have HQ1 := Lib.hid hq1
            clear hbe hq1
            refine hK _ _ HBE.out ?_
            clear hK K
            refine h_one 21 rfl (by kernel_rfl) (by kernel_rfl) (fun K hK => ?_)
            go_simp
            refine (rright_any A n c xs (by have := HN.out; omega) (fun x hx => (HSZ.out x hx).1) _ (RD.out _ (HB5.out.trans (HBE.out.mono HB5.out.size)))).mono ?_
            rintro e wrd ⟨⟨q2, hq2, rfl⟩, hbf⟩
            obtain rfl : q2 = q1 := Bool.eq_iff_iff.2 (hq2.trans HQ1.out.symm)
            have HBF := Lib.hid (HBE.out.trans (hbf.mono HBE.out.size))
            clear hbf hq2
            refine hK _ _ HBF.out ?_
            clear hK K
            refine h_take 22 (.bool true) rfl (by kernel_rfl) (by kernel_rfl) (by kernel_rfl) (fun _ _ _ h => h) (by kernel_rfl) HBF.out (by intro v hv; go_simp) ?_
            refine h_take 23 (.bool true) rfl (by kernel_rfl) (by kernel_rfl) (by kernel_rfl) (fun _ _ _ h => h) (by kernel_rfl) HBF.out (fun _ _ => by kernel_rfl) ?_
            refine h_take 24 (.bool true) rfl (by kernel_rfl) (by kernel_rfl) (by kernel_rfl) (fun _ _ _ h => h) (by kernel_rfl) HBF.out (fun _ _ => by kernel_rfl) ?_
            refine wpAnyH_done (by kernel_rfl) ?_ _
            go_simp
            rw [HM.out]
            exact ⟨_, _, _, _, _, _, _, _, _, _, _, _, _, _, _, _, _, _, _, _, _, _, _, _, _, _, _, _, _, _, _, _, _, _, _, _, _, _, _, rfl, HBF.out⟩
          · go_simp
            have hnew := one_new wa99 (.cells #[] 26)
            have hbn := HBa100.out.alloc HBa100.out.size (.cells #[] 26)
            have hsz : (wa99.alloc (.cells #[] 26)).heap.size = wa99.heap.size + 1 := by simp
            have hen := own_less (own_emptyN wa99 26 7) HBa100.out.size
            have hrn := (Below.heap_alloc wa99 (.cells #[] 26) (w8.heap.size) (Array.getElem?_eq_some_iff.1 HR101.out).1).trans HR101.out
            generalize (wa99.alloc (.cells #[] 26)) = wa119 at *
            have HBa120 := Lib.hid hbn
            have HE121 := Lib.hid hen
            have HR122 := Lib.hid hrn
            have HG123 : Hid (wa99.heap.size < wa119.heap.size) := (by show _ < _; omega)
            have HN124 : Hid (w8.heap.size ≠ wa99.heap.size) := (by have h0 := (Array.getElem?_eq_some_iff.1 HR101.out).1; show _ ≠ _; omega)
            clear hnew hbn hsz hen hrn
            refine hK _ _ HBa120.out ?_
            clear hK K
            refine h_one 7 rfl (by kernel_rfl) (by kernel_rfl) (fun K hK => ?_)
            go_simp
            refine (fputs_any A n c xs ⟨⟨kd, t, u, o, m0, g⟩, Ar, nr, cr, lr⟩ (by have := HN.out; omega) HSZ.out HXZ.out _ (RD.out _ (HB5.out.trans (HBa120.out.mono HB5.out.size))) (HXR.out _ (HB5.out.trans (HBa120.out.mono HB5.out.size)))).mono ?_
            rintro e wp125 ⟨A6, c6, ps, rfl, hp6, hst6, hb6⟩
            have HBp126 := Lib.hid (HBa120.out.trans (hb6.mono HBa120.out.size))
            have HP6 := Lib.hid hp6
            have HL6 : Hid ((fo Rw.k Rw.t (xs ++ [⟨⟨kd, t, u, o, m0, g⟩, Ar, nr, cr, lr⟩])).length ≤ 40) := (by have := fo_len (k := Rw.k) (t := Rw.t) (xs ++ [⟨⟨kd, t, u, o, m0, g⟩, Ar, nr, cr, lr⟩]); rw [List.length_append, HL.out] at this; simp at this; have := HN.out; show _ ≤ 40; omega)
            have HE128 := Lib.hid (own_below HE121.out hb6)
            have HP127 : Hid (StAv wp125 (some (wa99.heap.size)) A6 _ c6 ps) := (StAv.after hst6 (by exact HG123.out))
            have HR129 : Hid (wp125.heap[w8.heap.size]? = some (.cells #[.int .i64 kd, .string (tx t), .int .u64 u, .slice Ar nr cr, .int .u64 o, .int .u64 m0, .string (tx g)] 26 (0, 0))) := ((hb6.block (w8.heap.size) (Array.getElem?_eq_some_iff.1 HR122.out).1).trans HR122.out)
            have HG130 : Hid (wa99.heap.size < wp125.heap.size) := (Nat.lt_of_lt_of_le (by exact HG123.out) hb6.size)
            clear hp6 hst6 hb6
            refine hK _ _ HBp126.out ?_
            clear hK K
            refine h_one 10 rfl (by kernel_rfl) (by kernel_rfl) (fun K hK => ?_)
            refine wp_append_many (.tmp 26) (.tmp 27) 22 rfl w5.heap.size 26 ig _ 7 88 Try.underlying22 hig hz0 hz1 hz2 rfl (by decide) (.slice (some ⟨wa99.heap.size, 0, none⟩) 0 0) (0) ([]) rfl HE128.out (A) (n) (c) wp125.heap.size (rws xs) rfl HAC.out (RD.out _ (HB5.out.trans (HBp126.out.mono HB5.out.size))).1 (rws_one _) (by have := HN.out; unfold maxLen; omega) (by have := HN.out; omega) HBp126.out.size ?_
            intro v28 wq131 hr9 hg9 hv9
            rw [Nat.zero_add, List.nil_append] at hr9
            have HBq132 := Lib.hid (HBp126.out.grown hg9 HBp126.out.size (fun j hj => own_block HE128.out j hj))
            have hg8 : wp125.grownBy wq131 (some (wa99.heap.size)) := hg9
            have HP133 := Lib.hid (StAv.grown HP127.out hg8 hv9)
            have HR134 : Hid (wq131.heap[w8.heap.size]? = some (.cells #[.int .i64 kd, .string (tx t), .int .u64 u, .slice Ar nr cr, .int .u64 o, .int .u64 m0, .string (tx g)] 26 (0, 0))) := ((hg8.block (w8.heap.size) (Array.getElem?_eq_some_iff.1 HR129.out).1 (fun e => HN124.out (by injection e))).trans HR129.out)
            have HV135 := Lib.hid hr9
            have HG136 : Hid (wa99.heap.size < wq131.heap.size) := (Nat.lt_of_lt_of_le (by exact HG130.out) hg9.size)
            clear hr9 hg9 hv9 hg8
            refine hK _ _ HBq132.out ?_
            clear hK K
            refine h_one 13 rfl (by kernel_rfl) (by kernel_rfl) (fun K hK => ?_)
            have hrd1 : Reads wq131 wq131.heap.size 7 (some ⟨w8.heap.size, 0, none⟩) 1 (rws [⟨⟨kd, t, u, o, m0, g⟩, Ar, nr, cr, lr⟩]) := ⟨rfl, fun _ => ⟨_, rfl, (Array.getElem?_eq_some_iff.1 HR134.out).1, fun j u hu => by
              rw [Addr.add_mid, Nat.zero_add]
              exact at_cell HR134.out (by simpa [rws, Rw.cells] using hu)⟩⟩
            refine wp_append_many (.tmp 28) (.tmp 30) 22 rfl w5.heap.size 26 ig _ 7 88 Try.underlying22 hig hz0 hz1 hz2 rfl (by decide) (v28) (n) (rws xs) rfl HV135.out (some ⟨w8.heap.size, 0, none⟩) (1) (1) wq131.heap.size (rws [⟨⟨kd, t, u, o, m0, g⟩, Ar, nr, cr, lr⟩]) rfl (fun h => by cases h) hrd1 (rws_one _) (by have := HN.out; unfold maxLen; omega) (by have := HN.out; omega) HBq132.out.size ?_
            intro v31 wr9 hr9 hg9 hv9
            rw [← rws_app] at hr9
            have HP9 := Lib.hid (StAv.grown HP133.out hg9 hv9)
            have HB9 := Lib.hid (HBq132.out.grown hg9 HBq132.out.size (fun j hj => own_block HV135.out j hj))
            obtain ⟨Ab, cb, rfl, _⟩ := own_slice hr9
            have HRB : Hid (Recs wr9 wr9.heap.size Ab (n + 1) (xs ++ [⟨⟨kd, t, u, o, m0, g⟩, Ar, nr, cr, lr⟩])) := ⟨Reads.of_own hr9, fun z hz => by
              rcases List.mem_append.1 hz with hz | hz
              · exact (RD.out wr9 (HB5.out.trans (HB9.out.mono HB5.out.size))).2 z hz
              · obtain rfl := List.mem_singleton.1 hz
                exact HXR.out wr9 (HB5.out.trans (HB9.out.mono HB5.out.size))⟩
            clear hr9 hg9 hv9 hrd1
            refine hK _ _ HB9.out ?_
            clear hK K
            refine h_one 14 rfl (by kernel_rfl) (by kernel_rfl) (fun K hK => ?_)
            go_simp
            refine (rof_any Ab (n + 1) cb (xs ++ [⟨⟨kd, t, u, o, m0, g⟩, Ar, nr, cr, lr⟩]) (by have := HN.out; omega) HTL.out _ HRB.out).mono ?_
            rintro e wra ⟨Ac, cc, rfl, hrc, hbc⟩
            have HBC := Lib.hid (HB9.out.trans (hbc.mono HB9.out.size))
            have HRC := Lib.hid hrc
            have HPC := Lib.hid (HP9.out.below hbc).recs
            clear hrc hbc
            refine hK _ _ HBC.out ?_
            clear hK K
            refine h_one 15 rfl (by kernel_rfl) (by kernel_rfl) (fun K hK => ?_)
            go_simp
            refine (rall_any A6 Ac _ _ c6 cc ps _ (by have := HL6.out; unfold maxLen; omega) (by have := HL6.out; unfold maxLen; omega) (HSP.out ps HP6.out _ _ _ _ HPC.out) _ HPC.out HRC.out).mono ?_
            rintro e wrb ⟨he, hbd⟩
            obtain rfl := he.yes HP6.out
            have HBD := Lib.hid (HBC.out.trans (hbd.mono HBC.out.size))
            clear hbd
            refine hK _ _ HBD.out ?_
            clear hK K
            refine h_take 16 (.bool true) rfl (by kernel_rfl) (by kernel_rfl) (by kernel_rfl) (fun _ _ _ h => h) (by kernel_rfl) HBD.out (fun _ _ => by kernel_rfl) ?_
            refine h_take 17 (.bool true) rfl (by kernel_rfl) (by kernel_rfl) (by kernel_rfl) (fun _ _ _ h => h) (by kernel_rfl) HBD.out (fun _ _ => by kernel_rfl) ?_
            refine h_take 18 (.slice A n c) rfl (by kernel_rfl) (by kernel_rfl) (by kernel_rfl) (fun _ _ _ h => h) (by kernel_rfl) HBD.out (fun _ _ => by kernel_rfl) ?_
            refine h_take 20 (.slice A n c) rfl (by kernel_rfl) (by kernel_rfl) (by kernel_rfl) (fun _ _ _ h => h) (by kernel_rfl) HBD.out (fun _ _ => by kernel_rfl) ?_
            refine h_one 19 rfl (by kernel_rfl) (by kernel_rfl) (fun K hK => ?_)
            go_simp
            refine (right_any A n c xs (by have := HN.out; omega) _ (RD.out _ (HB5.out.trans (HBD.out.mono HB5.out.size)))).mono ?_
            rintro e wrc ⟨⟨q1, hq1, rfl⟩, hbe⟩
            have HBE := Lib.hid (HBD.out.trans (hbe.mono HBD.out.size))
            have HQ1 := Lib.hid hq1
            clear hbe hq1
            refine hK _ _ HBE.out ?_
            clear hK K
            refine h_one 21 rfl (by kernel_rfl) (by kernel_rfl) (fun K hK => ?_)
            go_simp
            refine (rright_any A n c xs (by have := HN.out; omega) (fun x hx => (HSZ.out x hx).1) _ (RD.out _ (HB5.out.trans (HBE.out.mono HB5.out.size)))).mono ?_
            rintro e wrd ⟨⟨q2, hq2, rfl⟩, hbf⟩
            obtain rfl : q2 = q1 := Bool.eq_iff_iff.2 (hq2.trans HQ1.out.symm)
            have HBF := Lib.hid (HBE.out.trans (hbf.mono HBE.out.size))
            clear hbf hq2
            refine hK _ _ HBF.out ?_
            clear hK K
            refine h_take 22 (.bool true) rfl (by kernel_rfl) (by kernel_rfl) (by kernel_rfl) (fun _ _ _ h => h) (by kernel_rfl) HBF.out (by intro v hv; go_simp) ?_
            refine h_take 23 (.bool true) rfl (by kernel_rfl) (by kernel_rfl) (by kernel_rfl) (fun _ _ _ h => h) (by kernel_rfl) HBF.out (fun _ _ => by kernel_rfl) ?_
            refine h_take 24 (.bool true) rfl (by kernel_rfl) (by kernel_rfl) (by kernel_rfl) (fun _ _ _ h => h) (by kernel_rfl) HBF.out (fun _ _ => by kernel_rfl) ?_
            refine wpAnyH_done (by kernel_rfl) ?_ _
            go_simp
            rw [HM.out]
            exact ⟨_, _, _, _, _, _, _, _, _, _, _, _, _, _, _, _, _, _, _, _, _, _, _, _, _, _, _, _, _, _, _, _, _, _, _, _, _, _, _, rfl, HBF.out⟩
    · have SR := Lib.hid sr
      have q0 := at_cell (i := 0) HBOX0.out rfl
      clear h hr hf rd sm sr hn hac hfr hnr har
      go_enter Try.func3, Try.ntmps3
      go_wp2_with (first
        | (go_at_call 9; refine (HFX.out _).mono ?_; rintro e w4 ⟨rfl, hb4⟩; have HB4 := Lib.hid (HB3.out.trans (hb4.mono HB3.out.size)); clear hb4)
        | (go_at_call 8; refine (HG2.out _ HB2.out).mono ?_; rintro e w3 ⟨he, hb3⟩; obtain rfl := he.yes SR.out; have HB3 := Lib.hid (HB2.out.trans (hb3.mono HB2.out.size)); clear hb3)
        | (go_at_call 7; refine (HG.out _ HB0.out).mono ?_; rintro e w2 ⟨he, hb2⟩; obtain rfl := he.no (fun h => h SM.out); have HB2 := Lib.hid (HB0.out.trans (hb2.mono HB0.out.size)); have HBOX2 := Lib.hid ((hb2.block w.heap.size HSB.out).trans HBOX0.out); have q0 := at_cell (i := 0) HBOX2.out rfl; have q1 := at_cell (i := 1) HBOX2.out rfl; have q2 := at_cell (i := 2) HBOX2.out rfl; have q3 := at_cell (i := 3) HBOX2.out rfl; have q4 := at_cell (i := 4) HBOX2.out rfl; have q5 := at_cell (i := 5) HBOX2.out rfl; have q6 := at_cell (i := 6) HBOX2.out rfl; clear hb2))
      go_ret
      exact ⟨rfl, HB4.out⟩
  · have SM := Lib.hid sm
    clear h hr hf rd sm hn hac hfr hnr har
    go_enter Try.func3, Try.ntmps3
    go_wp2_with (first
      | (go_at_call 9; refine (HFX.out _).mono ?_; rintro e w4 ⟨rfl, hb4⟩; have HB4 := Lib.hid (HB2.out.trans (hb4.mono HB2.out.size)); clear hb4)
      | (go_at_call 7; refine (HG.out _ HB0.out).mono ?_; rintro e w2 ⟨he, hb2⟩; obtain rfl := he.yes SM.out; have HB2 := Lib.hid (HB0.out.trans (hb2.mono HB0.out.size)); clear hb2))
    go_ret
    exact ⟨rfl, HB4.out⟩

end Go.Proofs.Ytbgjlkbfelgglaa
