/- The document's Clean where nothing is wrong. -/
import Derived.Test.YtacjiojfjkonkaaWr7
namespace Go.Proofs.Ytacjiojfjkonkaa
open Go.RowKit Go.Sort

set_option maxRecDepth 100000 in
set_option maxHeartbeats 4000000 in
theorem rclean_ok (A : Option Addr) (n c : Nat) (xs : List Nw) (hn : n ≤ 1000) (hnc : n ≤ c) (hok : NOk xs) (hxc : ∀ x ∈ xs, x.n ≤ x.c) (hru : ∀ x ∈ xs, RuleOk x.d ∧ x.n ≤ 1000) (hc0 : chk (nds xs) = 0) (G : Option Addr) (gn gc : Nat) (gs : List Stp) (hgn : gn ≤ 1000000) (w : World) (h : Nodes w w.heap.size A n xs) (hg : Steps w w.heap.size G gn gs) :
    Calls Try.prog 10 #[.slice A n c, .slice G gn gc] w fun e w' => (∃ A5 c5, e = .returned (.tuple #[.slice A5 n c5, .int .i64 0]) ∧ w'.ownsRow w.heap.size 44 3 (.slice A5 n c5) n (sts (clN (nds xs) gs (ord (nds xs)) n))) ∧ Below w.heap.size w w' := by
  have HL : Hid (xs.length = n) := h.len
  have HLD : Hid ((nds xs).length = n) := by show _ = _; rw [nds_len]; exact h.len
  have HNS := Lib.hid h
  have HGS := Lib.hid hg
  have HF := Lib.hid hok
  have HRU := Lib.hid hru
  obtain ⟨_, hnd, _, hdi, hol⟩ := chk_ok.1 hc0
  have HLO : Hid ((ord (nds xs)).length = n) := hol.trans HLD.out
  have HCH := Lib.hid (fun (W : World) (hb : Below w.heap.size w W) => rcheck_any A n c xs (by omega) hnc hok hxc W ((h.below hb).more hb.size))
  have HRW := Lib.hid (fun (W : World) (hb : Below w.heap.size w W) => rrow_any A n c xs (by omega) hok hnd hdi W ((h.below hb).more hb.size))
  rw [hc0] at HCH
  rw [HLO.out] at HRW
  obtain ⟨ii, hi0, hz0, hz1, hz2⟩ := info_parts info_step
  obtain ⟨iq, hj0, hy0, hy1, hy2⟩ := info_parts info_q
  have HB0 := Lib.hid ((Below.refl w.heap.size w).alloc (Nat.le_refl _) (.cells #[] 44))
  have HOE : Hid ((w.alloc (.cells #[] 44)).ownsRow w.heap.size 44 3 (.slice (some ⟨w.heap.size, 0, none⟩) 0 0) 0 []) := ⟨rfl, .inr ⟨w.heap.size, 0, #[], rfl, Nat.le_refl _, one_new w _, Nat.le_refl _, by unfold maxLen; omega, rfl, rfl⟩⟩
  clear h hg hok hxc hru hc0 hnd hdi hol
  go_enter Try.func10, Try.ntmps10
  go_wp2_with (first
    | (go_at_call 22; refine (HRW.out _ HB1.out).mono ?_; rintro e w2 ⟨⟨A6, c6, rfl, ho2⟩, hb2⟩; have HI2 := Lib.hid (own_less ho2 HB1.out.size); have HB2 := Lib.hid (HB1.out.trans (hb2.mono HB1.out.size)); have HOE2 := Lib.hid (own_below HOE1.out hb2); clear hb2 ho2)
    | (go_at_call 21; refine (HCH.out _ HB0.out).mono ?_; rintro e w1 ⟨rfl, hb1⟩; have HB1 := Lib.hid (HB0.out.trans (hb1.mono HB0.out.size)); have HOE1 := Lib.hid (own_below HOE.out hb1); clear hb1))
  go_loopw [9, 6] (fun idx v wr => ∃ (i : Nat) (A7 : Option Addr) (c7 : Nat), i ≤ n ∧ idx = .int .i64 (i : Int) ∧ v = .slice A7 i c7 ∧ wr.ownsRow w.heap.size 44 3 v i (sts (clN (nds xs) gs (ord (nds xs)) i)) ∧ wr.ownsRow w.heap.size 3 1 (.slice A6 n c6) n (ivs (ord (nds xs))) ∧ Below w.heap.size w wr) (fun idx _ _ => n - (intOf idx).toNat)
  case atStart => exact ⟨0, _, 0, by omega, rfl, rfl, HOE2.out, HI2.out, HB2.out⟩
  case round =>
    obtain ⟨i, A7, c7, hi, rfl, rfl, hown, hoi, hb⟩ := hrel
    have HOWN := Lib.hid hown
    have HOI := Lib.hid hoi
    have HB := Lib.hid hb
    by_cases hlt : i < n
    · obtain ⟨j1, hj1⟩ : ∃ j, (ord (nds xs))[i]? = some j := ⟨_, List.getElem?_eq_getElem (by rw [HLO.out]; exact hlt)⟩
      have hj1n : j1 < n := by rw [← HLD.out]; exact (ord_good (nds xs) _).1 j1 (List.mem_of_getElem? hj1)
      obtain ⟨x, hx⟩ : ∃ x, xs[j1]? = some x := ⟨_, List.getElem?_eq_getElem (by rw [HL.out]; exact hj1n)⟩
      have hmx := List.mem_of_getElem? hx
      obtain ⟨ad, rfl, hab, k0, k1, k2, k3⟩ := nodes_cells ((HNS.out.below hb).1) j1 x hx
      obtain ⟨a6, u6, rfl, _, hu6, hc6⟩ := (Reads.of_own hoi).at_ hlt
      obtain rfl : u6 = .int .i64 (j1 : Int) := by unfold ivs at hu6; rw [List.getElem?_map, hj1] at hu6; simpa using hu6.symm
      have HCL := Lib.hid (cl_step (g := gs) hj1 (nds_at hx))
      have HRX := Lib.hid (HRU.out x hmx)
      have HFX := Lib.hid (HF.out x hmx)
      obtain ⟨⟨nm, sc, ru, ds⟩, xA, xn, xc⟩ := x
      simp only at k0 k1 k2 k3 HCL HRX HFX
      have hj0' : (0 : Int) ≤ (i : Int) := by omega
      have hj2' : (i : Int) < (n : Int) := by omega
      have hj3' : (0 : Int) ≤ (j1 : Int) := by omega
      have hj4' : (j1 : Int) < (n : Int) := by omega
      cases sc with
      | true =>
        have HNEW := Lib.hid (one_new wr (.cells #[.string (tx nm), .bool true, .int .u64 ru, .slice xA xn xc] 37))
        have p0 := at_cell (i := 0) HNEW.out rfl
        have p1 := at_cell (i := 1) HNEW.out rfl
        have hal0 : Below wr.heap.size wr (wr.alloc (.cells #[.string (tx nm), .bool true, .int .u64 ru, .slice xA xn xc] 37)) := (Below.refl _ wr).alloc (Nat.le_refl _) _
        have HOW := Lib.hid (own_below HOWN.out hal0)
        have HOJ := Lib.hid (own_below HOI.out hal0)
        have HBV := Lib.hid (HB.out.trans (hal0.mono HB.out.size))
        have HGV := Lib.hid (rgiven_any G gn gc gs nm hgn (wr.alloc (.cells #[.string (tx nm), .bool true, .int .u64 ru, .slice xA xn xc] 37)) ((HGS.out.below HBV.out).more HBV.out.size))
        obtain ⟨z, hz⟩ : ∃ z : Int, qv (givN gs nm gn) = .int .u64 z := ⟨_, rfl⟩
        have HZ := Lib.hid hz
        rw [hz] at HGV
        rw [show stepOf gs (clN (nds xs) gs (ord (nds xs)) i) ⟨nm, true, ru, ds⟩ = ⟨nm, false, givN gs nm gn⟩ by unfold stepOf; rw [if_pos rfl, HGS.out.len]] at HCL
        clear hz hal0
        clear hx hmx hu6 hown hoi hb hj1 hj1n
        go_wp2_with (first
          | (at_builtin; refine wpList_append_many _ rfl (.tmp 64) (.tmp 72) 23 rfl w.heap.size 44 ii _ 3 32 Try.underlying23 hi0 hz0 hz1 hz2 rfl (by decide) (.slice A7 i c7) i _ rfl (HOW.out.alloc _) (some ⟨w3.heap.size, 0, none⟩) 1 1 (w3.heap.size + 1) [.string (tx nm), .bool false, .int .u64 z] rfl (by intro h; cases h) (by have h9 := reads_step w3 ⟨nm, false, givN gs nm gn⟩; unfold Stp.cells at h9; simp only [HZ.out] at h9; exact h9) (by intro u hu; simp at hu; rcases hu with rfl | rfl | rfl <;> rfl) (by unfold maxLen; omega) (by omega) (by have := HBV.out.size; simp; omega) ?_; intro v5 w5 ho5 hg5; have HO5 := Lib.hid ho5; have HG5 := Lib.hid hg5; clear ho5 hg5)
          | (go_at_call 15; refine HGV.out.mono ?_; rintro e w3 ⟨rfl, hw3⟩; rw [hw3] at HOW HOJ HBV HNEW; have p0 := at_cell (i := 0) HNEW.out rfl; have p1 := at_cell (i := 1) HNEW.out rfl; clear hw3))
        obtain ⟨A9, c9, rfl, _⟩ := own_slice HO5.out
        have hal : Below w3.heap.size w3 (w3.alloc (.cells #[.string (tx nm), .bool false, .int .u64 z] 44)) := (Below.refl _ w3).alloc (Nat.le_refl _) _
        have hst : sts (clN (nds xs) gs (ord (nds xs)) (i + 1)) = sts (clN (nds xs) gs (ord (nds xs)) i) ++ [.string (tx nm), .bool false, .int .u64 z] := by
          rw [HCL.out, sts_app]
          show _ ++ ([Value.string (tx nm), .bool false, qv (givN gs nm gn)] ++ []) = _
          rw [HZ.out]
          rfl
        have ho6 : w5.ownsRow w.heap.size 44 3 (.slice A9 (i + 1) c9) (i + 1) (sts (clN (nds xs) gs (ord (nds xs)) (i + 1))) := by rw [hst]; exact HO5.out
        have hap := own_apart HOJ.out HOW.out (by decide)
        have hoi : w5.ownsRow w.heap.size 3 1 (.slice (some a6) n c6) n (ivs (ord (nds xs))) := (own_below HOJ.out hal).kept HG5.out (by
          cases hq : (Value.slice (some a6) n c6).ownBlock with
          | none => exact .inl rfl
          | some g => exact .inr (fun e => hap g hq e.symm))
        have hb5 := ((HBV.out.trans (hal.mono HBV.out.size)).grown HG5.out (by have := HBV.out.size; have := hal.size; omega) (fun j hj => own_block HOW.out j hj))
        exact ⟨⟨i + 1, A9, c9, by omega, by go_num, rfl, ho6, hoi, hb5⟩, by simp [intOf]; omega⟩
      | false =>
        obtain ⟨wo, hwo⟩ : ∃ x, x = wr := ⟨_, rfl⟩
        subst hwo
        have HNEW := Lib.hid (one_new wo (.cells #[.string (tx nm), .bool false, .int .u64 ru, .slice xA xn xc] 37))
        have p1 := at_cell (i := 1) HNEW.out rfl
        have hal0 : Below wo.heap.size wo (wo.alloc (.cells #[.string (tx nm), .bool false, .int .u64 ru, .slice xA xn xc] 37)) := (Below.refl _ wo).alloc (Nat.le_refl _) _
        have hsz : (wo.alloc (.cells #[.string (tx nm), .bool false, .int .u64 ru, .slice xA xn xc] 37)).heap.size = wo.heap.size + 1 := by simp
        have HSZ := Lib.hid hsz
        have HBV0 := Lib.hid (HB.out.trans (hal0.mono HB.out.size))
        have hds : Reads wo wo.heap.size 1 xA xn (ds.map tsv) := Reads.more (Reads.below (HNS.out.2 _ hmx) HB.out) HB.out.size
        have HDS := Lib.hid (hds.below hal0)
        have HDL : Hid (ds.length = xn) := by show _ = _; have := hds.1; simpa using this
        have hout : Steps wo wo.heap.size A7 i (clN (nds xs) gs (ord (nds xs)) i) := Reads.of_own hown
        have HOL : Hid ((clN (nds xs) gs (ord (nds xs)) i).length = i) := hout.len
        have HOUT := Lib.hid (hout.below hal0)
        have HOWA := Lib.hid (own_below HOWN.out hal0)
        have HOJA := Lib.hid (own_below HOI.out hal0)
        have hem := own_empty (wo.alloc (.cells #[.string (tx nm), .bool false, .int .u64 ru, .slice xA xn xc] 37)) 34
        rw [hsz] at hem
        have HEM := Lib.hid hem
        have HEB := Lib.hid ((Below.refl (wo.heap.size + 1) (wo.alloc (.cells #[.string (tx nm), .bool false, .int .u64 ru, .slice xA xn xc] 37))).alloc (by rw [hsz]; exact Nat.le_refl _) (.cells #[] 34))
        obtain ⟨z, hz⟩ : ∃ z : Int, qv (foq (dg (rq ru)) (ds.map (fun d => givN (clN (nds xs) gs (ord (nds xs)) i) d i))) = .int .u64 z := ⟨_, rfl⟩
        have HZ := Lib.hid hz
        rw [show stepOf gs (clN (nds xs) gs (ord (nds xs)) i) ⟨nm, false, ru, ds⟩ = ⟨nm, true, (foq (dg (rq ru)) (ds.map (fun d => givN (clN (nds xs) gs (ord (nds xs)) i) d i)))⟩ by unfold stepOf; rw [if_neg (by simp), HOL.out]] at HCL
        have hxn : xn ≤ 1000 := HRX.out.2
        clear hx hmx hu6 hown hoi hb hj1 hj1n hal0 hds hout hem hsz hz
        go_wp2
        go_loopw [13, 12] (fun idx v wq => ∃ (j : Nat) (A8 : Option Addr) (c8 : Nat), j ≤ xn ∧ idx = .int .i64 (j : Int) ∧ v = .slice A8 j c8 ∧ wq.ownsRow (wo.heap.size + 1) 34 1 v j (((ds.take j).map (fun d => givN (clN (nds xs) gs (ord (nds xs)) i) d i)).map qv) ∧ Below (wo.heap.size + 1) (wo.alloc (.cells #[.string (tx nm), .bool false, .int .u64 ru, .slice xA xn xc] 37)) wq) (fun idx _ _ => xn - (intOf idx).toNat)
        case atStart => exact ⟨0, _, 0, by omega, rfl, rfl, HEM.out, HEB.out⟩
        case round =>
          obtain ⟨j, A8, c8, hj, rfl, rfl, how8, hbq⟩ := hrel
          have HO8 := Lib.hid how8
          have HBQ := Lib.hid hbq
          have hsq : wo.heap.size + 1 ≤ wr.heap.size := by have := hbq.size; have := HSZ.out; omega
          have HSQ := Lib.hid hsq
          have HNQ := Lib.hid ((hbq.block wo.heap.size (by omega)).trans HNEW.out)
          have p3 := at_cell (i := 3) HNQ.out rfl
          by_cases hlt3 : j < xn
          · obtain ⟨s, hs⟩ : ∃ s, ds[j]? = some s := ⟨_, List.getElem?_eq_getElem (by rw [HDL.out]; exact hlt3)⟩
            obtain ⟨ax, sv, rfl, hxb, hsv, hsc⟩ := ((HDS.out.more (Nat.le_succ _)).below hbq).at_ hlt3
            obtain rfl : sv = tsv s := by rw [List.getElem?_map, hs] at hsv; simpa using hsv.symm
            unfold tsv at hsc
            have HGV := Lib.hid (rgiven_any A7 i c7 (clN (nds xs) gs (ord (nds xs)) i) s (by omega) wr (((HOUT.out.more (Nat.le_succ _)).below hbq).more hsq))
            have HST : Hid (((ds.take (j + 1)).map (fun d => givN (clN (nds xs) gs (ord (nds xs)) i) d i)).map qv = ((ds.take j).map (fun d => givN (clN (nds xs) gs (ord (nds xs)) i) d i)).map qv ++ [qv (givN (clN (nds xs) gs (ord (nds xs)) i) s i)]) := by show _ = _; rw [List.take_add_one, hs, List.map_append, List.map_append]; rfl
            obtain ⟨y, hy⟩ : ∃ y : Int, qv (givN (clN (nds xs) gs (ord (nds xs)) i) s i) = .int .u64 y := ⟨_, rfl⟩
            rw [hy] at HGV HST
            have hjj0 : (0 : Int) ≤ (j : Int) := by omega
            have hjj1 : (j : Int) < (xn : Int) := by omega
            clear hs hsv how8 hbq hy hsq
            go_wp2_with (first
              | (at_builtin; refine wpList_append_many _ rfl (.tmp 50) (.tmp 58) 38 rfl (wo.heap.size + 1) 34 iq _ 1 8 Try.underlying38 hj0 hy0 hy1 hy2 rfl (by decide) (.slice A8 j c8) j _ rfl (HO8.out.alloc _) (some ⟨wr.heap.size, 0, none⟩) 1 1 (wr.heap.size + 1) [.int .u64 y] rfl (by intro h; cases h) (reads_one_row wr 34 _) (by intro u hu; simp at hu; subst hu; rfl) (by unfold maxLen; omega) (by omega) (by have := HSQ.out; simp; omega) ?_; intro v4 w4 ho4 hg4; have HO4 := Lib.hid ho4; have HG4 := Lib.hid hg4; clear ho4 hg4)
              | (go_at_call 15; refine HGV.out.mono ?_; rintro e w3 ⟨rfl, rfl⟩))
            obtain ⟨A9, c9, rfl, _⟩ := own_slice HO4.out
            have hal : Below wr.heap.size wr (wr.alloc (.cells #[.int .u64 y] 34)) := (Below.refl _ wr).alloc (Nat.le_refl _) _
            have hb4 := ((HBQ.out.trans (hal.mono HSQ.out)).grown HG4.out (by have := HSQ.out; have := hal.size; omega) (fun j hj => own_block HO8.out j hj))
            exact ⟨⟨j + 1, A9, c9, by omega, by go_num, rfl, by rw [HST.out]; exact HO4.out, hb4⟩, by simp [intOf]; omega⟩
          · obtain rfl : xn = j := by omega
            have hrd := Reads.of_own how8
            rw [List.take_of_length_le (by rw [HDL.out]; omega)] at hrd
            have hbq2 : Below (wo.alloc (.cells #[.string (tx nm), .bool false, .int .u64 ru, .slice xA xn xc] 37)).heap.size (wo.alloc (.cells #[.string (tx nm), .bool false, .int .u64 ru, .slice xA xn xc] 37)) wr := by rw [HSZ.out]; exact hbq
            have HOW := Lib.hid (own_below HOWA.out hbq2)
            have HOJ := Lib.hid (own_below HOJA.out hbq2)
            have HBV := Lib.hid (HBV0.out.trans (hbq2.mono HBV0.out.size))
            have HFO := Lib.hid (reffold_any A8 xn c8 (rq ru) (ds.map (fun d => givN (clN (nds xs) gs (ord (nds xs)) i) d i)) hxn wr.heap.size wr hrd)
            rw [HZ.out, show qv (rq ru) = .int .u64 ru from HRX.out.1] at HFO
            have p0 := at_cell (i := 0) HNQ.out rfl
            have p1 := at_cell (i := 1) HNQ.out rfl
            have p2 := at_cell (i := 2) HNQ.out rfl
            clear how8 hbq hbq2 hrd hsq
            go_wp2_with (first
              | (at_builtin; refine wpList_append_many _ rfl (.tmp 64) (.tmp 72) 23 rfl w.heap.size 44 ii _ 3 32 Try.underlying23 hi0 hz0 hz1 hz2 rfl (by decide) (.slice A7 i c7) i _ rfl (HOW.out.alloc _) (some ⟨wr.heap.size, 0, none⟩) 1 1 (wr.heap.size + 1) [.string (tx nm), .bool true, .int .u64 z] rfl (by intro h; cases h) (by have h9 := reads_step wr ⟨nm, true, (foq (dg (rq ru)) (ds.map (fun d => givN (clN (nds xs) gs (ord (nds xs)) i) d i)))⟩; unfold Stp.cells at h9; simp only [HZ.out] at h9; exact h9) (by intro u hu; simp at hu; rcases hu with rfl | rfl | rfl <;> rfl) (by unfold maxLen; omega) (by omega) (by have := HBV.out.size; simp; omega) ?_; intro v5 w5 ho5 hg5; have HO5 := Lib.hid ho5; have HG5 := Lib.hid hg5; clear ho5 hg5)
              | (go_at_call 13; refine HFO.out.mono ?_; rintro e w3 ⟨rfl, rfl⟩))
            obtain ⟨A9, c9, rfl, _⟩ := own_slice HO5.out
            have hal : Below wr.heap.size wr (wr.alloc (.cells #[.string (tx nm), .bool true, .int .u64 z] 44)) := (Below.refl _ wr).alloc (Nat.le_refl _) _
            have hst : sts (clN (nds xs) gs (ord (nds xs)) (i + 1)) = sts (clN (nds xs) gs (ord (nds xs)) i) ++ [.string (tx nm), .bool true, .int .u64 z] := by
              rw [HCL.out, sts_app]
              show _ ++ ([Value.string (tx nm), .bool true, qv (foq (dg (rq ru)) (ds.map (fun d => givN (clN (nds xs) gs (ord (nds xs)) i) d i)))] ++ []) = _
              rw [HZ.out]
              rfl
            have ho6 : w5.ownsRow w.heap.size 44 3 (.slice A9 (i + 1) c9) (i + 1) (sts (clN (nds xs) gs (ord (nds xs)) (i + 1))) := by rw [hst]; exact HO5.out
            have hap := own_apart HOJ.out HOW.out (by decide)
            have hoi : w5.ownsRow w.heap.size 3 1 (.slice (some a6) n c6) n (ivs (ord (nds xs))) := (own_below HOJ.out hal).kept HG5.out (by
              cases hq : (Value.slice (some a6) n c6).ownBlock with
              | none => exact .inl rfl
              | some g => exact .inr (fun e => hap g hq e.symm))
            have hb5 := ((HBV.out.trans (hal.mono HBV.out.size)).grown HG5.out (by have := HBV.out.size; have := hal.size; omega) (fun j hj => own_block HOW.out j hj))
            exact ⟨⟨i + 1, A9, c9, by omega, by go_num, rfl, ho6, hoi, hb5⟩, by simp [intOf]; omega⟩
    · obtain rfl : n = i := by omega
      clear hown hoi hb
      go_wp2
      go_ret2
      exact ⟨⟨A7, c7, rfl, HOWN.out⟩, HB.out⟩

end Go.Proofs.Ytacjiojfjkonkaa
