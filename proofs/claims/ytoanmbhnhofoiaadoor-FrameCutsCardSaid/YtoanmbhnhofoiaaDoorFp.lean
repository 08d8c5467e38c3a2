/- The walk of FrameCuts: it returns true at any payloads and any place. -/
import Derived.Test.YtoanmbhnhofoiaaDoorFo
import Derived.Test.YtoanmbhnhofoiaaDoorFi
import Derived.Test.YtoanmbhnhofoiaaDoorH
namespace Go.Proofs.YtoanmbhnhofoiaaDoor
open Go.RowKit Go.Shelf

set_option maxRecDepth 100000 in
set_option maxHeartbeats 400000 in
theorem cuts_no (L : Option Addr) (m d : Nat) (at_ : Int) (vs : List Value) (ps : List (List UInt8)) (hs : ¬ smalls ps) (w : World) (hl : Laid w) (hr : Reads w w.heap.size 1 L m vs) (hp : WRows w w.heap.size vs ps) :
    Calls Tryd.prog 6 #[.slice L m d, .int .u16 at_] w fun e w' => e = .returned (.bool true) ∧ Below w.heap.size w w' := by
  have HF := Lib.hid (frame_fixed w hl)
  have HSM : Hid (Calls Tryd.prog 20 #[.slice L m d] w fun e w' => e = .returned (.bool false) ∧ w = w') := by
    refine (small_any L m d vs ps w hr hp).mono ?_
    rintro e w' ⟨h | h, rfl⟩
    · exact absurd h.1 hs
    · exact ⟨h.2, rfl⟩
  clear hl hs hr hp
  go_enter Tryd.func6, Tryd.ntmps6
  go_wp2_with (first
    | (go_at_call 20; refine HSM.out.mono ?_; rintro e w3 ⟨rfl, rfl⟩)
    | (go_at_call 8; refine HF.out.mono ?_; rintro e w3 ⟨rfl, hb3⟩))
  go_ret
  exact ⟨rfl, hb3⟩

set_option maxRecDepth 100000 in
set_option maxHeartbeats 1000000 in
/-- k: where it is cut off; j: how many are whole. -/
theorem cuts_core (L : Option Addr) (m d n0 k j : Nat) (at_ : Int) (vs : List Value) (ps : List (List UInt8)) (hs : smalls ps) (hat : 0 ≤ at_ ∧ at_ ≤ 65535) (hk : (at_ = (k : Int) ∧ k ≤ (frs ps).length) ∨ (k = (frs ps).length ∧ ((frs ps).length : Int) < at_))
    (hj : j ≤ ps.length) (hrun : frun (k + 1) 0 ((frs ps).take k) = told 0 (ps.take j)) (hlo : ∀ i, i < j → fend ps i ≤ k) (hhi : ∀ i, j ≤ i → i < ps.length → k < fend ps i)
    (w : World) (hn0 : w.heap.size = n0) (hl : Laid w) (hr : Reads w n0 1 L m vs) (hp : WRows w n0 vs ps) :
    Calls Tryd.prog 6 #[.slice L m d, .int .u16 at_] w fun e w' => e = .returned (.bool true) ∧ Below n0 w w' := by
  have hml : ps.length = m := by have := hr.1; have := hp.1; omega
  have hsz0 : n0 ≤ w.heap.size := by omega
  have HSM : Hid (Calls Tryd.prog 20 #[.slice L m d] w fun e w' => e = .returned (.bool true) ∧ w = w') := by
    refine (small_any L m d vs ps w (by rw [hn0]; exact hr) (by rw [hn0]; exact hp)).mono ?_
    rintro e w' ⟨h | h, rfl⟩
    · exact ⟨h.2, rfl⟩
    · exact absurd hs h.1
  have HLD := Lib.hid (laid_any2 L m d n0 vs ps hs w hn0 hl hr hp)
  have hfl : (frs ps).length ≤ 214 * 20 := by
    have h1 := frs_small ps (fun q hq => (hs.2 q hq).2)
    have h3 : 214 * ps.length ≤ 214 * 20 := Nat.mul_le_mul_left _ hs.1
    omega
  have hm20 : m ≤ 20 := by have := hs.1; omega
  have hjm : j ≤ m := by omega
  have hkK : k ≤ (frs ps).length := by rcases hk with h | h <;> omega
  have hwat : IntKind.i64.wrap at_ = at_ := by rw [IntKind.wrap_i64]; omega
  have HML := Lib.hid hml
  have HP := Lib.hid hp
  have HR := Lib.hid hr
  have HL := Lib.hid hl
  have HN0 := Lib.hid hn0
  have HS := Lib.hid hs
  have HRUN := Lib.hid hrun
  have HLO := Lib.hid hlo
  have HHI := Lib.hid hhi
  obtain ⟨K, hK⟩ : ∃ K, K = (frs ps).length := ⟨_, rfl⟩
  rw [← hK] at hk hfl hkK HLD
  have HK := Lib.hid hK
  clear hml hp hr hl hn0 hs hrun hlo hhi hat hj hK
  rcases hk with ⟨rfl, hk⟩ | ⟨rfl, hk⟩
  · clear hk

    go_enter Tryd.func6, Tryd.ntmps6
    go_wp2_with fail
    refine HSM.out.mono ?_
    rintro e w0 ⟨rfl, rfl⟩
    go_wp2_with fail
    refine HLD.out.mono ?_
    rintro e w1 ⟨b, en, rfl, ho1, ho2, hb1⟩
    obtain ⟨A1, c1, rfl, hc1, hr1⟩ := own_reads ho1
    obtain ⟨E1, e1, rfl, he1, hr2⟩ := own_reads ho2
    rw [HML.out] at hr2 he1 ⊢
    have HR1 := Lib.hid hr1
    have HR2 := Lib.hid hr2
    clear ho1 ho2 hr1 hr2
    have hck : k ≤ c1 := by omega
    go_wp2_with fail
    go_loopw [9, 34] (fun v idx wr => ∃ i : Nat, i ≤ m ∧ idx = .int .i64 (i : Int) ∧ v = .int .i64 ((min i j : Nat) : Int) ∧ wr = w1) (fun v idx wr => m - (intOf idx).toNat)
    case atStart => exact ⟨0, by omega, rfl, by simp, rfl⟩
    case round =>
      obtain ⟨i, hi, rfl, rfl, rfl⟩ := hrel
      by_cases hlt : i < m
      · obtain ⟨ad, u, rfl, hadb, hx, hcell⟩ := HR2.out.at_ hlt
        obtain ⟨p, hp⟩ : ∃ p, ps[i]? = some p := ⟨_, List.getElem?_eq_getElem (by rw [HML.out]; exact hlt)⟩
        obtain rfl : u = .int .i64 (fend ps i : Int) := by
          rw [List.getElem?_map, told_at hp] at hx
          simpa [tn] using hx.symm
        obtain ⟨f, hf⟩ : ∃ f, f = fend ps i := ⟨_, rfl⟩
        rw [← hf] at hcell
        by_cases hij : i < j
        · have hle : (f : Int) ≤ (k : Int) := by have := HLO.out i hij; omega
          have e1 : min (i + 1) j = i + 1 := by omega
          have e2 : min i j = i := by omega
          have E1 := Lib.hid e1
          rw [e2]
          clear hx hp hf e1 e2
          go_wp2
          exact ⟨⟨i + 1, by omega, by go_num, by rw [E1.out]; go_num, by first | rfl | trivial⟩, by simp [intOf]; omega⟩
        · have hle : ¬ ((f : Int) ≤ (k : Int)) := by have := HHI.out i (by omega) (by rw [HML.out]; exact hlt); omega
          have e1 : min (i + 1) j = j := by omega
          have e2 : min i j = j := by omega
          have E1 := Lib.hid e1
          rw [e2]
          clear hx hp hf e1 e2
          go_wp2
          exact ⟨⟨i + 1, by omega, by go_num, by rw [E1.out], by first | rfl | trivial⟩, by simp [intOf]; omega⟩
      · obtain rfl : i = m := by omega
        have e2 : min i j = j := by omega
        rw [e2]
        clear e2
        have hsz1 : n0 ≤ wr.heap.size := by have := hb1.size; omega
        have hrun0 := run_in A1 k c1 0 ((frs ps).take k) hck (by omega) (by omega) wr (HL.out.below (by rw [HN0.out]; exact hb1)) (by rw [List.map_take]; exact HR1.out.take hkK)
        rw [HRUN.out] at hrun0
        have HRN : Hid (Calls Tryd.prog 17 #[.slice A1 k c1, .int .i64 0] wr _) := hrun0
        clear hrun0
        go_wp2_with fail
        refine HRN.out.mono ?_
        rintro e w2 ⟨v1, v2, xs, rfl, hxs, hms, hg1, hg2, hb2⟩
        have hxl : xs.length = j := by
          have h1 : (told 0 (ps.take j)).length = j := by rw [told_len, List.length_take, HML.out]; omega
          rw [← h1, ← hxs, List.length_map]
        rw [hxl] at hg1 hg2
        obtain ⟨A3, c3, rfl, hc3, hr3⟩ := own_reads hg1
        obtain ⟨A4, c4, rfl, hc4, hr4⟩ := own_reads hg2
        have HXS := Lib.hid hxs
        have HMS : Hid (∀ x ∈ xs, Mine w2 n0 x.1 x.2.1) := fun x hx => (hms x hx).less hsz1
        have HR3 := Lib.hid hr3
        have HR4 := Lib.hid hr4
        have HXL := Lib.hid hxl
        have hB2 : Below n0 w w2 := hb1.trans (hb2.mono hsz1)
        have HB2 := Lib.hid hB2
        have HR2' := Lib.hid ((HR2.out.below hb2).more hb2.size)
        clear hxs hms hg1 hg2 hr3 hr4 hxl hB2
        go_wp2_with fail
        go_loopw [63] (fun idx wr => ∃ i : Nat, i ≤ j ∧ idx = .int .i64 (i : Int) ∧ Below w2.heap.size w2 wr) (fun idx wr => j - (intOf idx).toNat)
        case atStart => exact ⟨0, by omega, rfl, Below.refl _ _⟩
        case round =>
          obtain ⟨q, hq, rfl, hbw⟩ := hrel
          by_cases hlt2 : q < j
          · have hqm : q < i := by omega
            obtain ⟨ad3, u3, rfl, _, hu3, hc3'⟩ := (HR3.out.below hbw).at_ hlt2
            obtain ⟨ad4, u4, rfl, _, hu4, hc4'⟩ := (HR4.out.below hbw).at_ hlt2
            obtain ⟨ad2, u2, rfl, _, hu2, hc2'⟩ := (HR2'.out.below hbw).at_ hqm
            obtain ⟨p, hp⟩ : ∃ p, ps[q]? = some p := ⟨_, List.getElem?_eq_getElem (by rw [HML.out]; exact hqm)⟩
            obtain ⟨⟨v, p', nx⟩, hx⟩ : ∃ x, xs[q]? = some x := ⟨_, List.getElem?_eq_getElem (by rw [HXL.out]; exact hlt2)⟩
            have hpe : (p', nx) = (p, fend ps q) := by
              have h1 : (xs.map (·.2))[q]? = some (p', nx) := by rw [List.getElem?_map, hx]; rfl
              rw [HXS.out, told_take, List.getElem?_take, if_pos hlt2, told_at hp] at h1
              exact (Option.some.inj h1).symm
            obtain ⟨rfl, rfl⟩ := Prod.mk.inj hpe
            obtain rfl : v = u3 := by rw [List.getElem?_map, hx] at hu3; simpa using hu3
            obtain rfl : u4 = .int .i64 (fend ps q : Int) := by rw [List.getElem?_map, hx] at hu4; simpa [tn] using hu4.symm
            obtain rfl : u2 = .int .i64 (fend ps q : Int) := by rw [List.getElem?_map, told_at hp] at hu2; simpa [tn] using hu2.symm
            have hmx : Mine w2 n0 v p' := HMS.out _ (List.mem_of_getElem? hx)
            obtain ⟨A5, c5, rfl, -, -, hr5⟩ := hmx.reads
            have hB : Below n0 w wr := HB2.out.trans (hbw.mono (by have := HB2.out.size; omega))
            obtain ⟨ad1, u1, rfl, _, hu1, hc1'⟩ := (HR.out.below hB).at_ hqm
            obtain ⟨p2, hp2, A6, n6, c6, rfl, _, hr6⟩ := HP.out.2 q u1 hu1
            obtain rfl : p2 = p' := by rw [hp] at hp2; exact (Option.some.inj hp2).symm
            have hcv5 : (convert 22 9 (.slice A5 p2.length c5)).run Tryd.prog wr.drew = .ok (.string (tx p2)) wr.drew := conv_reads Tryd.underlying22 Tryd.underlying5 Tryd.underlying9 (hr5.below hbw).drew
            have hcv6 : (convert 22 9 (.slice A6 n6 c6)).run Tryd.prog wr.drew = .ok (.string (tx p2)) wr.drew := conv_reads Tryd.underlying22 Tryd.underlying5 Tryd.underlying9 (hr6.below hB).drew
            obtain ⟨f, hf⟩ : ∃ f, f = fend ps q := ⟨_, rfl⟩
            rw [← hf] at hc2' hc4'
            have HBW := Lib.hid hbw
            obtain ⟨l5, hl5⟩ : ∃ l5, l5 = p2.length := ⟨_, rfl⟩
            rw [← hl5] at hcv5 hc3'
            have hself : ((tx p2).toList == (tx p2).toList) = true := by simp
            generalize tx p2 = t at hcv5 hcv6 hself
            clear hu1 hu2 hu3 hu4 hp hx hpe hmx hr5 hr6 hp2 hB hbw hf hl5
            go_wp2_with fail
            have hS : wr.drew = wr.drew := rfl
            refine wp_region_held (S := fun W => W = wr.drew) (by kernel_rfl) ?_
            refine h_take 0 (.slice (some ad3) j c3) rfl (by kernel_rfl) (by kernel_rfl) (by kernel_rfl) (fun _ _ _ h => h) (by kernel_rfl) hS (fun _ _ => by kernel_rfl) ?_
            refine h_take 1 (.int .i64 (q : Int)) rfl (by kernel_rfl) (by kernel_rfl) (by kernel_rfl) (fun _ _ _ h => h) (by kernel_rfl) hS (fun _ _ => by kernel_rfl) ?_
            refine h_take 2 (.pointer (some (ad3.add q))) rfl (by kernel_rfl) (by kernel_rfl) (by kernel_rfl) (fun _ _ _ h => h) (by kernel_rfl) hS (by rintro w' rfl; go_simp) ?_
            refine h_take 3 (.slice A5 l5 c5) rfl (by kernel_rfl) (by kernel_rfl) (by kernel_rfl) (fun _ _ _ h => h) (by kernel_rfl) hS (by rintro w' rfl; go_simp) ?_
            refine h_take 4 (.string t) rfl (by kernel_rfl) (by kernel_rfl) (by kernel_rfl) (fun _ _ _ h => h) (by kernel_rfl) hS (by rintro w' rfl; go_simp) ?_
            refine h_take 5 (.slice (some ad1) i d) rfl (by kernel_rfl) (by kernel_rfl) (by kernel_rfl) (fun _ _ _ h => h) (by kernel_rfl) hS (fun _ _ => by kernel_rfl) ?_
            refine h_take 6 (.int .i64 (q : Int)) rfl (by kernel_rfl) (by kernel_rfl) (by kernel_rfl) (fun _ _ _ h => h) (by kernel_rfl) hS (fun _ _ => by kernel_rfl) ?_
            refine h_take 7 (.pointer (some (ad1.add q))) rfl (by kernel_rfl) (by kernel_rfl) (by kernel_rfl) (fun _ _ _ h => h) (by kernel_rfl) hS (by rintro w' rfl; go_simp) ?_
            refine h_take 8 (.slice A6 n6 c6) rfl (by kernel_rfl) (by kernel_rfl) (by kernel_rfl) (fun _ _ _ h => h) (by kernel_rfl) hS (by rintro w' rfl; go_simp) ?_
            refine h_take 9 (.string t) rfl (by kernel_rfl) (by kernel_rfl) (by kernel_rfl) (fun _ _ _ h => h) (by kernel_rfl) hS (by rintro w' rfl; go_simp) ?_
            refine h_take 10 (.bool false) rfl (by kernel_rfl) (by kernel_rfl) (by kernel_rfl) (fun _ _ _ h => h) (by kernel_rfl) hS (by rintro w' rfl; go_simp) ?_
            refine h_take 11 (.bool false) rfl (by kernel_rfl) (by kernel_rfl) (by kernel_rfl) (fun _ _ _ h => h) (by kernel_rfl) hS (fun _ _ => by kernel_rfl) ?_
            refine h_take 12 (.slice (some ad4) j c4) rfl (by kernel_rfl) (by kernel_rfl) (by kernel_rfl) (fun _ _ _ h => h) (by kernel_rfl) hS (fun _ _ => by kernel_rfl) ?_
            refine h_take 13 (.int .i64 (q : Int)) rfl (by kernel_rfl) (by kernel_rfl) (by kernel_rfl) (fun _ _ _ h => h) (by kernel_rfl) hS (fun _ _ => by kernel_rfl) ?_
            refine h_take 14 (.pointer (some (ad4.add q))) rfl (by kernel_rfl) (by kernel_rfl) (by kernel_rfl) (fun _ _ _ h => h) (by kernel_rfl) hS (by rintro w' rfl; go_simp) ?_
            refine h_take 15 (.int .i64 (f : Int)) rfl (by kernel_rfl) (by kernel_rfl) (by kernel_rfl) (fun _ _ _ h => h) (by kernel_rfl) hS (by rintro w' rfl; go_simp) ?_
            refine h_take 16 (.slice (some ad2) i e1) rfl (by kernel_rfl) (by kernel_rfl) (by kernel_rfl) (fun _ _ _ h => h) (by kernel_rfl) hS (fun _ _ => by kernel_rfl) ?_
            refine h_take 17 (.int .i64 (q : Int)) rfl (by kernel_rfl) (by kernel_rfl) (by kernel_rfl) (fun _ _ _ h => h) (by kernel_rfl) hS (fun _ _ => by kernel_rfl) ?_
            refine h_take 18 (.pointer (some (ad2.add q))) rfl (by kernel_rfl) (by kernel_rfl) (by kernel_rfl) (fun _ _ _ h => h) (by kernel_rfl) hS (by rintro w' rfl; go_simp) ?_
            refine h_take 19 (.int .i64 (f : Int)) rfl (by kernel_rfl) (by kernel_rfl) (by kernel_rfl) (fun _ _ _ h => h) (by kernel_rfl) hS (by rintro w' rfl; go_simp) ?_
            refine h_take 20 (.bool false) rfl (by kernel_rfl) (by kernel_rfl) (by kernel_rfl) (fun _ _ _ h => h) (by kernel_rfl) hS (by rintro w' rfl; go_simp) ?_
            refine h_take 21 (.bool false) rfl (by kernel_rfl) (by kernel_rfl) (by kernel_rfl) (fun _ _ _ h => h) (by kernel_rfl) hS (fun _ _ => by kernel_rfl) ?_
            refine wpAnyH_done (by kernel_rfl) ?_ _
            go_simp
            go_wp2
            exact ⟨⟨q + 1, by omega, by go_num, HBW.out.drew⟩, by simp [intOf]; omega⟩
          · obtain rfl : q = j := by omega
            have hbe : Below n0 w wr := HB2.out.trans (hbw.mono (by have := HB2.out.size; omega))
            have HBE := Lib.hid hbe
            have HFX := Lib.hid (frame_fixed wr (HL.out.below (by rw [HN0.out]; exact hbe)))
            clear hbe
            go_wp2_with fail
            refine HFX.out.mono ?_
            rintro e w6 ⟨rfl, hb6⟩
            go_wp2
            go_ret
            exact ⟨rfl, HBE.out.trans (hb6.mono (by have := HBE.out.size; omega))⟩
  · skip

    go_enter Tryd.func6, Tryd.ntmps6
    go_wp2_with fail
    refine HSM.out.mono ?_
    rintro e w0 ⟨rfl, rfl⟩
    go_wp2_with fail
    refine HLD.out.mono ?_
    rintro e w1 ⟨b, en, rfl, ho1, ho2, hb1⟩
    obtain ⟨A1, c1, rfl, hc1, hr1⟩ := own_reads ho1
    obtain ⟨E1, e1, rfl, he1, hr2⟩ := own_reads ho2
    rw [HML.out] at hr2 he1 ⊢
    have HR1 := Lib.hid hr1
    have HR2 := Lib.hid hr2
    clear ho1 ho2 hr1 hr2
    have hck : k ≤ c1 := by omega
    go_wp2_with fail
    go_loopw [9, 34] (fun v idx wr => ∃ i : Nat, i ≤ m ∧ idx = .int .i64 (i : Int) ∧ v = .int .i64 ((min i j : Nat) : Int) ∧ wr = w1) (fun v idx wr => m - (intOf idx).toNat)
    case atStart => exact ⟨0, by omega, rfl, by simp, rfl⟩
    case round =>
      obtain ⟨i, hi, rfl, rfl, rfl⟩ := hrel
      by_cases hlt : i < m
      · obtain ⟨ad, u, rfl, hadb, hx, hcell⟩ := HR2.out.at_ hlt
        obtain ⟨p, hp⟩ : ∃ p, ps[i]? = some p := ⟨_, List.getElem?_eq_getElem (by rw [HML.out]; exact hlt)⟩
        obtain rfl : u = .int .i64 (fend ps i : Int) := by
          rw [List.getElem?_map, told_at hp] at hx
          simpa [tn] using hx.symm
        obtain ⟨f, hf⟩ : ∃ f, f = fend ps i := ⟨_, rfl⟩
        rw [← hf] at hcell
        by_cases hij : i < j
        · have hle : (f : Int) ≤ (k : Int) := by have := HLO.out i hij; omega
          have e1 : min (i + 1) j = i + 1 := by omega
          have e2 : min i j = i := by omega
          have E1 := Lib.hid e1
          rw [e2]
          clear hx hp hf e1 e2
          go_wp2
          exact ⟨⟨i + 1, by omega, by go_num, by rw [E1.out]; go_num, by first | rfl | trivial⟩, by simp [intOf]; omega⟩
        · have hle : ¬ ((f : Int) ≤ (k : Int)) := by have := HHI.out i (by omega) (by rw [HML.out]; exact hlt); omega
          have e1 : min (i + 1) j = j := by omega
          have e2 : min i j = j := by omega
          have E1 := Lib.hid e1
          rw [e2]
          clear hx hp hf e1 e2
          go_wp2
          exact ⟨⟨i + 1, by omega, by go_num, by rw [E1.out], by first | rfl | trivial⟩, by simp [intOf]; omega⟩
      · obtain rfl : i = m := by omega
        have e2 : min i j = j := by omega
        rw [e2]
        clear e2
        have hsz1 : n0 ≤ wr.heap.size := by have := hb1.size; omega
        have hrun0 := run_in A1 k c1 0 ((frs ps).take k) hck (by omega) (by omega) wr (HL.out.below (by rw [HN0.out]; exact hb1)) (by rw [List.map_take]; exact HR1.out.take hkK)
        rw [HRUN.out] at hrun0
        have HRN : Hid (Calls Tryd.prog 17 #[.slice A1 k c1, .int .i64 0] wr _) := hrun0
        clear hrun0
        go_wp2_with fail
        refine HRN.out.mono ?_
        rintro e w2 ⟨v1, v2, xs, rfl, hxs, hms, hg1, hg2, hb2⟩
        have hxl : xs.length = j := by
          have h1 : (told 0 (ps.take j)).length = j := by rw [told_len, List.length_take, HML.out]; omega
          rw [← h1, ← hxs, List.length_map]
        rw [hxl] at hg1 hg2
        obtain ⟨A3, c3, rfl, hc3, hr3⟩ := own_reads hg1
        obtain ⟨A4, c4, rfl, hc4, hr4⟩ := own_reads hg2
        have HXS := Lib.hid hxs
        have HMS : Hid (∀ x ∈ xs, Mine w2 n0 x.1 x.2.1) := fun x hx => (hms x hx).less hsz1
        have HR3 := Lib.hid hr3
        have HR4 := Lib.hid hr4
        have HXL := Lib.hid hxl
        have hB2 : Below n0 w w2 := hb1.trans (hb2.mono hsz1)
        have HB2 := Lib.hid hB2
        have HR2' := Lib.hid ((HR2.out.below hb2).more hb2.size)
        clear hxs hms hg1 hg2 hr3 hr4 hxl hB2
        go_wp2_with fail
        go_loopw [63] (fun idx wr => ∃ i : Nat, i ≤ j ∧ idx = .int .i64 (i : Int) ∧ Below w2.heap.size w2 wr) (fun idx wr => j - (intOf idx).toNat)
        case atStart => exact ⟨0, by omega, rfl, Below.refl _ _⟩
        case round =>
          obtain ⟨q, hq, rfl, hbw⟩ := hrel
          by_cases hlt2 : q < j
          · have hqm : q < i := by omega
            obtain ⟨ad3, u3, rfl, _, hu3, hc3'⟩ := (HR3.out.below hbw).at_ hlt2
            obtain ⟨ad4, u4, rfl, _, hu4, hc4'⟩ := (HR4.out.below hbw).at_ hlt2
            obtain ⟨ad2, u2, rfl, _, hu2, hc2'⟩ := (HR2'.out.below hbw).at_ hqm
            obtain ⟨p, hp⟩ : ∃ p, ps[q]? = some p := ⟨_, List.getElem?_eq_getElem (by rw [HML.out]; exact hqm)⟩
            obtain ⟨⟨v, p', nx⟩, hx⟩ : ∃ x, xs[q]? = some x := ⟨_, List.getElem?_eq_getElem (by rw [HXL.out]; exact hlt2)⟩
            have hpe : (p', nx) = (p, fend ps q) := by
              have h1 : (xs.map (·.2))[q]? = some (p', nx) := by rw [List.getElem?_map, hx]; rfl
              rw [HXS.out, told_take, List.getElem?_take, if_pos hlt2, told_at hp] at h1
              exact (Option.some.inj h1).symm
            obtain ⟨rfl, rfl⟩ := Prod.mk.inj hpe
            obtain rfl : v = u3 := by rw [List.getElem?_map, hx] at hu3; simpa using hu3
            obtain rfl : u4 = .int .i64 (fend ps q : Int) := by rw [List.getElem?_map, hx] at hu4; simpa [tn] using hu4.symm
            obtain rfl : u2 = .int .i64 (fend ps q : Int) := by rw [List.getElem?_map, told_at hp] at hu2; simpa [tn] using hu2.symm
            have hmx : Mine w2 n0 v p' := HMS.out _ (List.mem_of_getElem? hx)
            obtain ⟨A5, c5, rfl, -, -, hr5⟩ := hmx.reads
            have hB : Below n0 w wr := HB2.out.trans (hbw.mono (by have := HB2.out.size; omega))
            obtain ⟨ad1, u1, rfl, _, hu1, hc1'⟩ := (HR.out.below hB).at_ hqm
            obtain ⟨p2, hp2, A6, n6, c6, rfl, _, hr6⟩ := HP.out.2 q u1 hu1
            obtain rfl : p2 = p' := by rw [hp] at hp2; exact (Option.some.inj hp2).symm
            have hcv5 : (convert 22 9 (.slice A5 p2.length c5)).run Tryd.prog wr.drew = .ok (.string (tx p2)) wr.drew := conv_reads Tryd.underlying22 Tryd.underlying5 Tryd.underlying9 (hr5.below hbw).drew
            have hcv6 : (convert 22 9 (.slice A6 n6 c6)).run Tryd.prog wr.drew = .ok (.string (tx p2)) wr.drew := conv_reads Tryd.underlying22 Tryd.underlying5 Tryd.underlying9 (hr6.below hB).drew
            obtain ⟨f, hf⟩ : ∃ f, f = fend ps q := ⟨_, rfl⟩
            rw [← hf] at hc2' hc4'
            have HBW := Lib.hid hbw
            obtain ⟨l5, hl5⟩ : ∃ l5, l5 = p2.length := ⟨_, rfl⟩
            rw [← hl5] at hcv5 hc3'
            have hself : ((tx p2).toList == (tx p2).toList) = true := by simp
            generalize tx p2 = t at hcv5 hcv6 hself
            clear hu1 hu2 hu3 hu4 hp hx hpe hmx hr5 hr6 hp2 hB hbw hf hl5
            go_wp2_with fail
            have hS : wr.drew = wr.drew := rfl
            refine wp_region_held (S := fun W => W = wr.drew) (by kernel_rfl) ?_
            refine h_take 0 (.slice (some ad3) j c3) rfl (by kernel_rfl) (by kernel_rfl) (by kernel_rfl) (fun _ _ _ h => h) (by kernel_rfl) hS (fun _ _ => by kernel_rfl) ?_
            refine h_take 1 (.int .i64 (q : Int)) rfl (by kernel_rfl) (by kernel_rfl) (by kernel_rfl) (fun _ _ _ h => h) (by kernel_rfl) hS (fun _ _ => by kernel_rfl) ?_
            refine h_take 2 (.pointer (some (ad3.add q))) rfl (by kernel_rfl) (by kernel_rfl) (by kernel_rfl) (fun _ _ _ h => h) (by kernel_rfl) hS (by rintro w' rfl; go_simp) ?_
            refine h_take 3 (.slice A5 l5 c5) rfl (by kernel_rfl) (by kernel_rfl) (by kernel_rfl) (fun _ _ _ h => h) (by kernel_rfl) hS (by rintro w' rfl; go_simp) ?_
            refine h_take 4 (.string t) rfl (by kernel_rfl) (by kernel_rfl) (by kernel_rfl) (fun _ _ _ h => h) (by kernel_rfl) hS (by rintro w' rfl; go_simp) ?_
            refine h_take 5 (.slice (some ad1) i d) rfl (by kernel_rfl) (by kernel_rfl) (by kernel_rfl) (fun _ _ _ h => h) (by kernel_rfl) hS (fun _ _ => by kernel_rfl) ?_
            refine h_take 6 (.int .i64 (q : Int)) rfl (by kernel_rfl) (by kernel_rfl) (by kernel_rfl) (fun _ _ _ h => h) (by kernel_rfl) hS (fun _ _ => by kernel_rfl) ?_
            refine h_take 7 (.pointer (some (ad1.add q))) rfl (by kernel_rfl) (by kernel_rfl) (by kernel_rfl) (fun _ _ _ h => h) (by kernel_rfl) hS (by rintro w' rfl; go_simp) ?_
            refine h_take 8 (.slice A6 n6 c6) rfl (by kernel_rfl) (by kernel_rfl) (by kernel_rfl) (fun _ _ _ h => h) (by kernel_rfl) hS (by rintro w' rfl; go_simp) ?_
            refine h_take 9 (.string t) rfl (by kernel_rfl) (by kernel_rfl) (by kernel_rfl) (fun _ _ _ h => h) (by kernel_rfl) hS (by rintro w' rfl; go_simp) ?_
            refine h_take 10 (.bool false) rfl (by kernel_rfl) (by kernel_rfl) (by kernel_rfl) (fun _ _ _ h => h) (by kernel_rfl) hS (by rintro w' rfl; go_simp) ?_
            refine h_take 11 (.bool false) rfl (by kernel_rfl) (by kernel_rfl) (by kernel_rfl) (fun _ _ _ h => h) (by kernel_rfl) hS (fun _ _ => by kernel_rfl) ?_
            refine h_take 12 (.slice (some ad4) j c4) rfl (by kernel_rfl) (by kernel_rfl) (by kernel_rfl) (fun _ _ _ h => h) (by kernel_rfl) hS (fun _ _ => by kernel_rfl) ?_
            refine h_take 13 (.int .i64 (q : Int)) rfl (by kernel_rfl) (by kernel_rfl) (by kernel_rfl) (fun _ _ _ h => h) (by kernel_rfl) hS (fun _ _ => by kernel_rfl) ?_
            refine h_take 14 (.pointer (some (ad4.add q))) rfl (by kernel_rfl) (by kernel_rfl) (by kernel_rfl) (fun _ _ _ h => h) (by kernel_rfl) hS (by rintro w' rfl; go_simp) ?_
            refine h_take 15 (.int .i64 (f : Int)) rfl (by kernel_rfl) (by kernel_rfl) (by kernel_rfl) (fun _ _ _ h => h) (by kernel_rfl) hS (by rintro w' rfl; go_simp) ?_
            refine h_take 16 (.slice (some ad2) i e1) rfl (by kernel_rfl) (by kernel_rfl) (by kernel_rfl) (fun _ _ _ h => h) (by kernel_rfl) hS (fun _ _ => by kernel_rfl) ?_
            refine h_take 17 (.int .i64 (q : Int)) rfl (by kernel_rfl) (by kernel_rfl) (by kernel_rfl) (fun _ _ _ h => h) (by kernel_rfl) hS (fun _ _ => by kernel_rfl) ?_
            refine h_take 18 (.pointer (some (ad2.add q))) rfl (by kernel_rfl) (by kernel_rfl) (by kernel_rfl) (fun _ _ _ h => h) (by kernel_rfl) hS (by rintro w' rfl; go_simp) ?_
            refine h_take 19 (.int .i64 (f : Int)) rfl (by kernel_rfl) (by kernel_rfl) (by kernel_rfl) (fun _ _ _ h => h) (by kernel_rfl) hS (by rintro w' rfl; go_simp) ?_
            refine h_take 20 (.bool false) rfl (by kernel_rfl) (by kernel_rfl) (by kernel_rfl) (fun _ _ _ h => h) (by kernel_rfl) hS (by rintro w' rfl; go_simp) ?_
            refine h_take 21 (.bool false) rfl (by kernel_rfl) (by kernel_rfl) (by kernel_rfl) (fun _ _ _ h => h) (by kernel_rfl) hS (fun _ _ => by kernel_rfl) ?_
            refine wpAnyH_done (by kernel_rfl) ?_ _
            go_simp
            go_wp2
            exact ⟨⟨q + 1, by omega, by go_num, HBW.out.drew⟩, by simp [intOf]; omega⟩
          · obtain rfl : q = j := by omega
            have hbe : Below n0 w wr := HB2.out.trans (hbw.mono (by have := HB2.out.size; omega))
            have HBE := Lib.hid hbe
            have HFX := Lib.hid (frame_fixed wr (HL.out.below (by rw [HN0.out]; exact hbe)))
            clear hbe
            go_wp2_with fail
            refine HFX.out.mono ?_
            rintro e w6 ⟨rfl, hb6⟩
            go_wp2
            go_ret
            exact ⟨rfl, HBE.out.trans (hb6.mono (by have := HBE.out.size; omega))⟩

theorem cuts_any (L : Option Addr) (m d : Nat) (at_ : Int) (hat : 0 ≤ at_ ∧ at_ ≤ 65535) (vs : List Value) (ps : List (List UInt8)) (w : World) (hl : Laid w) (hr : Reads w w.heap.size 1 L m vs) (hp : WRows w w.heap.size vs ps) :
    Calls Tryd.prog 6 #[.slice L m d, .int .u16 at_] w fun e w' => e = .returned (.bool true) ∧ Below w.heap.size w w' := by
  by_cases hs : smalls ps
  · have hpay : ∀ q ∈ ps, pay q := fun q hq => ⟨(hs.2 q hq).1, by have := (hs.2 q hq).2; omega⟩
    by_cases hlt : ((frs ps).length : Int) < at_
    · obtain ⟨j, h1, h2, h3, h4⟩ := cut_at ps (frs ps).length hpay (Nat.le_refl _)
      exact cuts_core L m d _ _ j at_ vs ps hs hat (.inr ⟨rfl, hlt⟩) h1 h2 h3 h4 w rfl hl hr hp
    · obtain ⟨k, rfl⟩ : ∃ k : Nat, at_ = (k : Int) := ⟨at_.toNat, by omega⟩
      obtain ⟨j, h1, h2, h3, h4⟩ := cut_at ps k hpay (by omega)
      exact cuts_core L m d _ _ j (k : Int) vs ps hs hat (.inl ⟨rfl, by omega⟩) h1 h2 h3 h4 w rfl hl hr hp
  · exact cuts_no L m d at_ vs ps hs w hl hr hp

end Go.Proofs.YtoanmbhnhofoiaaDoor
