/- Texts of one proof, one behind the other. -/
import Derived.Test.YtidkahmjjknkmaaMh16

/- The document's walk: deps. -/
namespace Go.Proofs.Ytidkahmjjknkmaa
open Go.RowKit

set_option maxRecDepth 100000 in
set_option maxHeartbeats 4000000 in
theorem wdeps_any (ver : Int) (c : Cu) (hok : c.ok) (hrm : c.bs.length ≤ 100000) (m : Nat) (hm : m < 18446744073709551616) (T : Option Addr) (n k : Nat) (tl : List (List UInt8)) (htn : n ≤ 1000000) (w : World) (hr : Reads w w.heap.size 1 T n (tl.map tsv)) :
    Calls Try.prog 67 #[wkV c T n k, .int .i64 ver, .int .u64 (m : Int)] w fun e w' => (∃ A c', e = .returned (.tuple #[.slice A (dDs ver tl m ([], c)).1.length c', wkV (dDs ver tl m ([], c)).2 T n k]) ∧ (A = none → c' = 0) ∧ w'.ownsRow w.heap.size 55 3 (.slice A (dDs ver tl m ([], c)).1.length c') (dDs ver tl m ([], c)).1.length (dps (dDs ver tl m ([], c)).1)) ∧ Below w.heap.size w w' := by
  obtain ⟨i0, ii0, iz0, iz1, iz2⟩ := info_parts (show (Try.prog.info? 55).map (fun i => (i.zero, i.size, i.bytes)) = some (some (.agg #[.string { data := #[] }, .int .u64 0, .bool false]), 3, 32) from by kernel_rfl)
  have HNM : Hid (∀ d : Cu, d.ok → d.bs = c.bs → ∀ W, Below w.heap.size w W → Calls Try.prog 66 #[.agg #[.string (tx c.bs), .int .i64 (atV d), .slice T n k], .int .i64 ver] W fun e w' => e = .returned (.tuple #[.string (tx (dNm ver tl d).1), .agg #[.string (tx c.bs), .int .i64 (atV (dNm ver tl d).2), .slice T n k]]) ∧ Below W.heap.size W w') := fun d hd hb W hW => by
    have h1 := wnm_any ver d hd (by rw [hb]; omega) T n k tl htn W ((hr.below hW).more hW.size)
    unfold wkV at h1
    rw [nm_bs, hb] at h1
    exact h1
  have HNU : Hid (∀ d : Cu, d.ok → d.bs = c.bs → ∀ W, Below w.heap.size w W → Calls Try.prog 65 #[.agg #[.string (tx c.bs), .int .i64 (atV d), .slice T n k]] W fun e w' => e = .returned (.tuple #[.int .u64 (d.num.1 : Int), .agg #[.string (tx c.bs), .int .i64 (atV d.num.2), .slice T n k]]) ∧ Below W.heap.size W w') := fun d hd hb W _ => by
    have h1 := wnum_any d hd (by rw [hb]; omega) T n k W
    unfold wkV at h1
    rw [num_bs, hb] at h1
    exact h1
  have HKN : Hid (∀ (d : Cu) (j : Nat), d.bs = c.bs → ∀ W, Below w.heap.size w W → Calls Try.prog 68 #[.agg #[.string (tx c.bs), .int .i64 (atV d), .slice T n k], .int .u64 (j : Int)] W fun e w' => e = .returned (.tuple #[.string (tx (dKn tl j d).1), .agg #[.string (tx c.bs), .int .i64 (atV (dKn tl j d).2), .slice T n k]]) ∧ Below W.heap.size W w') := fun d j hb W hW => by
    have h1 := wkn_any d j T n k tl htn W ((hr.below hW).more hW.size)
    unfold wkV at h1
    rw [kn_bs, hb] at h1
    exact h1
  have HADV := Lib.hid (ds_adv ver tl hok)
  have HSTK := Lib.hid (fun i he => @ds_stuck ver tl ([], c) i he)
  have hb1 := (Below.refl w.heap.size w).alloc (Nat.le_refl _) (.cells #[.string (tx c.bs), .int .i64 (atV c), .slice T n k] 101)
  have hz1 : (w.alloc (.cells #[.string (tx c.bs), .int .i64 (atV c), .slice T n k] 101)).heap.size = w.heap.size + 1 := by simp
  have hb2 := hb1.alloc hb1.size (.cells #[.string ⟨#[]⟩, .int .i64 0, .slice none 0 0] 101)
  have h1 := one_new w (.cells #[.string (tx c.bs), .int .i64 (atV c), .slice T n k] 101)
  have h2 := one_new (w.alloc (.cells #[.string (tx c.bs), .int .i64 (atV c), .slice T n k] 101)) (.cells #[.string ⟨#[]⟩, .int .i64 0, .slice none 0 0] 101)
  rw [hz1] at h2
  have h1b := (Below.heap_alloc (w.alloc (.cells #[.string (tx c.bs), .int .i64 (atV c), .slice T n k] 101)) (.cells #[.string ⟨#[]⟩, .int .i64 0, .slice none 0 0] 101) w.heap.size (by rw [hz1]; omega)).trans h1
  obtain ⟨w2, hw2⟩ : ∃ x, x = (w.alloc (.cells #[.string (tx c.bs), .int .i64 (atV c), .slice T n k] 101)).alloc (.cells #[.string ⟨#[]⟩, .int .i64 0, .slice none 0 0] 101) := ⟨_, rfl⟩
  have hz2 : w2.heap.size = w.heap.size + 2 := by rw [hw2]; simp
  rw [← hw2] at hb2 h2 h1b
  have HW2 := Lib.hid hw2
  have ho3 := own_empty3 w2 55
  have hb3 := hb2.alloc hb2.size (.cells #[] 55)
  have hx3 := (Below.heap_alloc w2 (.cells #[] 55) w.heap.size (by omega)).trans h1b
  have hx7 := (Below.heap_alloc w2 (.cells #[] 55) (w.heap.size + 1) (by omega)).trans h2
  have ho3b := own_less ho3 (show w.heap.size + 2 ≤ w2.heap.size by omega)
  obtain ⟨w3, hw3⟩ : ∃ x, x = w2.alloc (.cells #[] 55) := ⟨_, rfl⟩
  have HW3 : Hid (w3 = ((w.alloc (.cells #[.string (tx c.bs), .int .i64 (atV c), .slice T n k] 101)).alloc (.cells #[.string ⟨#[]⟩, .int .i64 0, .slice none 0 0] 101)).alloc (.cells #[] 55)) := (by show _ = _; rw [hw3, hw2])
  have HV : Hid (w2.heap.size = w.heap.size + 1 + 1) := (by show _ = _; omega)
  rw [← hw3] at ho3b hb3 hx3 hx7
  have HO3 := Lib.hid ho3b
  have HB3 := Lib.hid hb3
  have HX3 := Lib.hid hx3
  have HX7 := Lib.hid hx7
  unfold wkV
  rw [ds_bs]
  simp only
  clear hb1 hz1 hb2 h1 h2 h1b hw2 hz2 ho3 hb3 hx3 hx7 ho3b hw3 hr
  go_enter Try.func67, Try.ntmps67
  go_wp2
  rw [← HW3.out]
  obtain ⟨b3, hb3⟩ : ∃ b3, b3 = w.heap.size := ⟨_, rfl⟩
  obtain ⟨b7, hb7⟩ : ∃ b7, b7 = w.heap.size + 1 := ⟨_, rfl⟩
  obtain ⟨b8, hb8⟩ : ∃ b8, b8 = w.heap.size + 1 + 1 := ⟨_, rfl⟩
  have HB3E := Lib.hid hb3
  have HB7E := Lib.hid hb7
  have HB8E := Lib.hid hb8
  rw [HV.out, ← hb8] at HO3
  rw [← hb7] at HX7
  rw [← hb3] at HX3
  rw [← hb8, ← hb7, ← hb3]
  clear hb3 hb7 hb8
  go_loopw [9, 8] (fun v9 vs wr => ∃ (i : Nat) (va : Value), i ≤ m ∧ v9 = .int .u64 (i : Int) ∧ va = vs ∧ wr.ownsRow b8 55 3 va (dDs ver tl i ([], c)).1.length (dps (dDs ver tl i ([], c)).1) ∧ (dDs ver tl i ([], c)).1.length ≤ 100001 ∧ wr.heap[b3]? = some (.cells #[.string (tx c.bs), .int .i64 (atV (dDs ver tl i ([], c)).2), .slice T n k] 101 (0, 0)) ∧ wr.heap[b7]? = some (.cells #[.string ⟨#[]⟩, .int .i64 0, .slice none 0 0] 101 (0, 0)) ∧ Below w.heap.size w wr) (fun v9 _ _ => m - (intOf v9).toNat)
  case atStart => exact ⟨0, _, Nat.zero_le _, rfl, rfl, HO3.out, Nat.zero_le _, HX3.out, HX7.out, HB3.out⟩
  case round =>
    obtain ⟨i, va, hi, rfl, rfl, hown, hlen, hx3, hx7, hb⟩ := hrel
    obtain ⟨hadv, hin⟩ := HADV.out i
    obtain ⟨st, hst⟩ : ∃ st, st = dDs ver tl i ([], c) := ⟨_, rfl⟩
    have HNEXT : Hid (st.2.e = 0 → dDs ver tl (i + 1) ([], c) = (st.1 ++ [(dDp ver tl st.2).1], (dDp ver tl st.2).2)) := fun he => by rw [hst] at he ⊢; exact if_pos he
    have HSTOP : Hid (st.2.e ≠ 0 → dDs ver tl m ([], c) = st) := fun he => by
      have h1 := HSTK.out i (by rw [← hst]; exact he) (m - i)
      rw [show i + (m - i) = m by omega] at h1
      rw [h1, ← hst]
    rw [← hst] at hown hlen hx3 hadv hin
    have HST := Lib.hid hst
    have HX3R := Lib.hid hx3
    have HX7R := Lib.hid hx7
    have HBR := Lib.hid hb
    have HOWN := Lib.hid hown
    have HLEN := Lib.hid hlen
    have HIN := Lib.hid hin
    have HOKD := Lib.hid hadv
    obtain ⟨sl, sc⟩ := st
    simp only at *
    have HI0 : Hid (i ≤ m) := hi
    have HB8S : Hid (w.heap.size ≤ b8) := (by have := HB8E.out; show _ ≤ _; omega)
    by_cases he : sc.e = 0
    · have ha0 : (0 : Int) ≤ atV sc := by unfold atV; rw [if_pos he]; omega
      by_cases hlt : i < m
      · obtain ⟨hsc, hln⟩ := hin he
        have HLN : Hid (sl.length ≤ 100000) := (by have h1 := hadv.ok; have h2 := hadv.bs; unfold Cu.ok at h1; rw [h2] at h1; show _ ≤ _; omega)
        have HI : Hid (i < m) := hlt
        have hN1 := HNEXT.out he
        have hlu : (i : Int) < (m : Int) := by omega
        have hw1 : IntKind.u64.wrap ((i : Int) + 1) = (i : Int) + 1 := by rw [show IntKind.u64.wrap ((i : Int) + 1) = ((i : Int) + 1) % 18446744073709551616 from rfl]; omega
        have hbw : Below wr.heap.size wr (wr.alloc (.cells #[.string ⟨#[]⟩, .int .u64 0, .bool false] 55)) := (Below.refl _ _).alloc (Nat.le_refl _) _
        have hD : DpS w (wr.alloc (.cells #[.string ⟨#[]⟩, .int .u64 0, .bool false] 55)) b8 va sl b3 b7 wr.heap.size (tx c.bs) (atV sc) T n k ⟨#[]⟩ 0 false :=
          ⟨(hbw.block b3 (lt_heapw hx3)).trans hx3, (hbw.block b7 (lt_heapw hx7)).trans hx7, by exact one_new wr _, World.ownsRow.alloc hown _, hb.trans (hbw.mono hb.size), by have := HB3E.out; omega, hb.size, by have h1 := HB3E.out; have h2 := HB7E.out; omega, by have := lt_heapw hx3; omega, by have := lt_heapw hx7; omega, fun e => by have h1 := own_block hown _ e; have h2 := HB3E.out; have h3 := HB8E.out; omega, fun e => by have h1 := own_block hown _ e; have h2 := HB7E.out; have h3 := HB8E.out; omega, fun e => by have h1 := own_lt hown _ e; omega⟩
        have g1r := at_cell (i := 1) hx3 rfl
        have g0 := at_cell (i := 0) hD.x3 rfl
        have g1 := at_cell (i := 1) hD.x3 rfl
        have g2 := at_cell (i := 2) hD.x3 rfl
        have d0 := at_cell (i := 0) hD.xd rfl
        have d1 := at_cell (i := 1) hD.xd rfl
        have d2 := at_cell (i := 2) hD.xd rfl
        have HE : Hid (sc.e = 0) := he
        have HOK : Hid (sc.ok ∧ sc.bs = c.bs) := ⟨hadv.ok, hadv.bs⟩
        clear hi hown hlen hx3 hx7 hb hadv hin hlt hbw hsc hln he
        obtain ⟨a0, ha0e⟩ : ∃ a0, a0 = atV sc := ⟨_, rfl⟩
        rw [← ha0e] at hD g1 g1r ha0
        by_cases hv : ver < 3
        · obtain ⟨x, hx⟩ : ∃ x, x = dNm ver tl sc := ⟨_, rfl⟩
          have HNA := nm_adv ver tl HOK.out.1
          rw [← hx] at HNA
          obtain ⟨hh, hhh⟩ : ∃ hh, hh = x.2.num.1 := ⟨_, rfl⟩
          have HN : Hid (dDs ver tl (i + 1) ([], c) = (sl ++ [⟨x.1, (hh : Int), false⟩], x.2.num.2)) := (by show _ = _; rw [hN1]; unfold dDp; rw [if_pos hv, ← hx, ← hhh])
          have HC1 := Lib.hid (fun W hW => HNM.out sc HOK.out.1 HOK.out.2 W hW)
          rw [← hx, ← ha0e] at HC1
          have HC2 := Lib.hid (fun W hW => HNU.out x.2 HNA.ok (HNA.bs.trans HOK.out.2) W hW)
          rw [← hhh] at HC2
          obtain ⟨a1, ha1⟩ : ∃ a1, a1 = atV x.2 := ⟨_, rfl⟩
          obtain ⟨a2, ha2⟩ : ∃ a2, a2 = atV x.2.num.2 := ⟨_, rfl⟩
          have HA2 := Lib.hid ha2
          rw [← ha1, ← ha2] at HC2
          rw [← ha1] at HC1
          obtain ⟨nm, hnm⟩ : ∃ nm, nm = x.1 := ⟨_, rfl⟩
          rw [← hnm] at HC1 HN
          clear hx hhh hN1 HNA ha1 ha2 ha0e hnm
          go_wp2_with (first
            | (go_at_call 66; refine (HC1.out _ hD.b).mono ?_; rintro e xHC1 ⟨rfl, hbx⟩; replace hD := hD.call hbx; clear g0 g1 g2 d0 d1 d2 hbx; have g0 := at_cell (i := 0) hD.x3 rfl; have g1 := at_cell (i := 1) hD.x3 rfl; have g2 := at_cell (i := 2) hD.x3 rfl; have d0 := at_cell (i := 0) hD.xd rfl; have d1 := at_cell (i := 1) hD.xd rfl; have d2 := at_cell (i := 2) hD.xd rfl)
            | (go_at_call 65; refine (HC2.out _ hD.b).mono ?_; rintro e xHC2 ⟨rfl, hbx⟩; replace hD := hD.call hbx; clear g0 g1 g2 d0 d1 d2 hbx; have g0 := at_cell (i := 0) hD.x3 rfl; have g1 := at_cell (i := 1) hD.x3 rfl; have g2 := at_cell (i := 2) hD.x3 rfl; have d0 := at_cell (i := 0) hD.xd rfl; have d1 := at_cell (i := 1) hD.xd rfl; have d2 := at_cell (i := 2) hD.xd rfl)
            | (at_builtin; have HD9 := Lib.hid hD; refine wpList_append_told _ rfl (.tmp 56) (.tmp 58) 24 rfl b8 55 i0 _ 3 32 Try.underlying24 ii0 iz0 iz1 iz2 rfl (by decide) va _ _ rfl (World.ownsRow.alloc HD9.out.own _) _ 1 1 _ (dps [⟨nm, (hh : Int), false⟩]) rfl (by simp) (reads_dep _ ⟨nm, (hh : Int), false⟩) (fun u hu => by simp [dps, Dp.cells, rsv] at hu; rcases hu with rfl | rfl | rfl <;> rfl) (by have := HLEN.out; unfold maxLen; omega) (by have := HLEN.out; omega) (by have h1 := lt_heapw HD9.out.x7; have h2 := HB7E.out; have h3 := HB8E.out; simp only [World.size_alloc]; omega) ?_; intro v6 w6 ho6 hg6 hv6; have HO6 := Lib.hid ho6; have HG6 := Lib.hid hg6; clear ho6 hg6 hv6 hD g0 g1 g2 d0 d1 d2)
            | (refine wpList_dc0 hD rfl _ _ rfl rfl _ rfl ?_; clear g0 g1 g2 d0 d1 d2 hD; intro wn hD; have g0 := at_cell (i := 0) hD.x3 rfl; have g1 := at_cell (i := 1) hD.x3 rfl; have g2 := at_cell (i := 2) hD.x3 rfl; have d0 := at_cell (i := 0) hD.xd rfl; have d1 := at_cell (i := 1) hD.xd rfl; have d2 := at_cell (i := 2) hD.xd rfl)
            | (refine wpList_dc1 hD rfl _ _ rfl rfl _ rfl ?_; clear g0 g1 g2 d0 d1 d2 hD; intro wn hD; have g0 := at_cell (i := 0) hD.x3 rfl; have g1 := at_cell (i := 1) hD.x3 rfl; have g2 := at_cell (i := 2) hD.x3 rfl; have d0 := at_cell (i := 0) hD.xd rfl; have d1 := at_cell (i := 1) hD.xd rfl; have d2 := at_cell (i := 2) hD.xd rfl)
            | (refine wpList_dc2 hD rfl _ _ rfl rfl _ rfl ?_; clear g0 g1 g2 d0 d1 d2 hD; intro wn hD; have g0 := at_cell (i := 0) hD.x3 rfl; have g1 := at_cell (i := 1) hD.x3 rfl; have g2 := at_cell (i := 2) hD.x3 rfl; have d0 := at_cell (i := 0) hD.xd rfl; have d1 := at_cell (i := 1) hD.xd rfl; have d2 := at_cell (i := 2) hD.xd rfl)
            | (refine wpList_dwk hD rfl _ _ rfl rfl _ rfl ?_; clear g0 g1 g2 d0 d1 d2 hD; intro wn hD; have g0 := at_cell (i := 0) hD.x3 rfl; have g1 := at_cell (i := 1) hD.x3 rfl; have g2 := at_cell (i := 2) hD.x3 rfl; have d0 := at_cell (i := 0) hD.xd rfl; have d1 := at_cell (i := 1) hD.xd rfl; have d2 := at_cell (i := 2) hD.xd rfl))
          have hD := HD9.out.call ((Below.refl _ _).alloc (Nat.le_refl _) (.cells #[.string (tx nm), .int .u64 (hh : Int), .bool false] 55))
          have hx3' := (HG6.out.block b3 (lt_heapw hD.x3) (fun e => hD.o3 e.symm)).trans hD.x3
          have hx7' := (HG6.out.block b7 (lt_heapw hD.x7) (fun e => hD.o7 e.symm)).trans hD.x7
          have hb6 : Below w.heap.size w w6 := hD.b.grown HG6.out hD.b.size (fun j hj => by have h1 := own_block hD.own j hj; have h2 := HB8S.out; omega)
          rw [HA2.out] at hx3'
          refine ⟨⟨i + 1, v6, HI.out, rfl, rfl, ?_, ?_, ?_, hx7', hb6⟩, by show m - (i + 1) < m - i; have := HI.out; omega⟩
          · rw [HN.out]
            have h9 := HO6.out
            rw [show dps sl ++ dps [⟨nm, (hh : Int), false⟩] = dps (sl ++ [⟨nm, (hh : Int), false⟩]) from List.flatMap_append.symm] at h9
            simp only [List.length_append, List.length_singleton]
            exact h9
          · rw [HN.out]
            simp only [List.length_append, List.length_singleton]
            have := HLN.out
            omega
          · rw [HN.out]
            exact hx3'
        · obtain ⟨q, hq⟩ : ∃ q, q = sc.num.1 := ⟨_, rfl⟩
          obtain ⟨d, hd⟩ : ∃ d, d = sc.num.2 := ⟨_, rfl⟩
          have hqlt : q < 18446744073709551616 := by rw [hq]; exact Cu.num_lt
          have hda := num_adv HOK.out.1
          rw [← hd] at hda
          obtain ⟨x, hx⟩ : ∃ x, x = dKn tl (q / 2) d := ⟨_, rfl⟩
          have HNA := kn_adv tl (q / 2) hda.ok
          rw [← hx] at HNA
          obtain ⟨hh, hhh⟩ : ∃ hh, hh = x.2.num.1 := ⟨_, rfl⟩
          have t2 : (q : Int).tdiv 2 = ((q / 2 : Nat) : Int) := by rw [Int.tdiv_eq_ediv_of_nonneg (by omega)]; simp
          have t3 : (q : Int).tmod 2 = ((q % 2 : Nat) : Int) := by rw [Int.tmod_eq_emod_of_nonneg (by omega)]; simp
          have HN : Hid (dDs ver tl (i + 1) ([], c) = (sl ++ [⟨x.1, (hh : Int), ((q % 2 : Nat) : Int) == 1⟩], x.2.num.2)) := (by show _ = _; rw [hN1]; unfold dDp; rw [if_neg hv, ← hq, ← hd, ← hx, ← hhh, show decide (q % 2 = 1) = (((q % 2 : Nat) : Int) == 1) from by rw [Bool.eq_iff_iff, decide_eq_true_iff, beq_iff_eq]; omega])
          have HC1 := Lib.hid (fun W hW => HNU.out sc HOK.out.1 HOK.out.2 W hW)
          rw [← hq, ← hd, ← ha0e] at HC1
          have HC2 := Lib.hid (fun W hW => HKN.out d (q / 2) (hda.bs.trans HOK.out.2) W hW)
          rw [← hx] at HC2
          have HC3 := Lib.hid (fun W hW => HNU.out x.2 HNA.ok ((HNA.bs.trans hda.bs).trans HOK.out.2) W hW)
          rw [← hhh] at HC3
          obtain ⟨ad, had⟩ : ∃ ad, ad = atV d := ⟨_, rfl⟩
          obtain ⟨a1, ha1⟩ : ∃ a1, a1 = atV x.2 := ⟨_, rfl⟩
          obtain ⟨a2, ha2⟩ : ∃ a2, a2 = atV x.2.num.2 := ⟨_, rfl⟩
          have HA2 := Lib.hid ha2
          rw [← had] at HC1 HC2
          rw [← ha1] at HC2
          rw [← ha1, ← ha2] at HC3
          obtain ⟨nm, hnm⟩ : ∃ nm, nm = x.1 := ⟨_, rfl⟩
          rw [← hnm] at HC2 HN
          obtain ⟨qm, hqm⟩ : ∃ qm, qm = q / 2 := ⟨_, rfl⟩
          obtain ⟨qb, hqb⟩ : ∃ qb, qb = q % 2 := ⟨_, rfl⟩
          have hqm2 : qm < 18446744073709551616 := by omega
          have hqb2 : qb < 2 := by omega
          rw [← hqm] at t2 HC2
          rw [← hqb] at t3 HN
          clear hq hd hx hhh hN1 HNA hda hqm hqb ha1 ha2 ha0e had hnm
          go_wp2_with (first
            | (go_at_call 65; first | (refine (HC1.out _ hD.b).mono ?_; clear HC1; rintro e xa ⟨rfl, hbx⟩; replace hD := hD.call hbx; clear g0 g1 g2 d0 d1 d2 hbx; have g0 := at_cell (i := 0) hD.x3 rfl; have g1 := at_cell (i := 1) hD.x3 rfl; have g2 := at_cell (i := 2) hD.x3 rfl; have d0 := at_cell (i := 0) hD.xd rfl; have d1 := at_cell (i := 1) hD.xd rfl; have d2 := at_cell (i := 2) hD.xd rfl) | (refine (HC3.out _ hD.b).mono ?_; rintro e xc ⟨rfl, hbx⟩; replace hD := hD.call hbx; clear g0 g1 g2 d0 d1 d2 hbx; have g0 := at_cell (i := 0) hD.x3 rfl; have g1 := at_cell (i := 1) hD.x3 rfl; have g2 := at_cell (i := 2) hD.x3 rfl; have d0 := at_cell (i := 0) hD.xd rfl; have d1 := at_cell (i := 1) hD.xd rfl; have d2 := at_cell (i := 2) hD.xd rfl))
            | (go_at_call 68; refine (HC2.out _ hD.b).mono ?_; rintro e xHC2 ⟨rfl, hbx⟩; replace hD := hD.call hbx; clear g0 g1 g2 d0 d1 d2 hbx; have g0 := at_cell (i := 0) hD.x3 rfl; have g1 := at_cell (i := 1) hD.x3 rfl; have g2 := at_cell (i := 2) hD.x3 rfl; have d0 := at_cell (i := 0) hD.xd rfl; have d1 := at_cell (i := 1) hD.xd rfl; have d2 := at_cell (i := 2) hD.xd rfl)
            | (at_builtin; have HD9 := Lib.hid hD; refine wpList_append_told _ rfl (.tmp 56) (.tmp 58) 24 rfl b8 55 i0 _ 3 32 Try.underlying24 ii0 iz0 iz1 iz2 rfl (by decide) va _ _ rfl (World.ownsRow.alloc HD9.out.own _) _ 1 1 _ (dps [⟨nm, (hh : Int), ((qb : Int) == 1)⟩]) rfl (by simp) (reads_dep _ ⟨nm, (hh : Int), ((qb : Int) == 1)⟩) (fun u hu => by simp [dps, Dp.cells, rsv] at hu; rcases hu with rfl | rfl | rfl <;> rfl) (by have := HLEN.out; unfold maxLen; omega) (by have := HLEN.out; omega) (by have h1 := lt_heapw HD9.out.x7; have h2 := HB7E.out; have h3 := HB8E.out; simp only [World.size_alloc]; omega) ?_; intro v6 w6 ho6 hg6 hv6; have HO6 := Lib.hid ho6; have HG6 := Lib.hid hg6; clear ho6 hg6 hv6 hD g0 g1 g2 d0 d1 d2)
            | (refine wpList_dc0 hD rfl _ _ rfl rfl _ rfl ?_; clear g0 g1 g2 d0 d1 d2 hD; intro wn hD; have g0 := at_cell (i := 0) hD.x3 rfl; have g1 := at_cell (i := 1) hD.x3 rfl; have g2 := at_cell (i := 2) hD.x3 rfl; have d0 := at_cell (i := 0) hD.xd rfl; have d1 := at_cell (i := 1) hD.xd rfl; have d2 := at_cell (i := 2) hD.xd rfl)
            | (refine wpList_dc1 hD rfl _ _ rfl rfl _ rfl ?_; clear g0 g1 g2 d0 d1 d2 hD; intro wn hD; have g0 := at_cell (i := 0) hD.x3 rfl; have g1 := at_cell (i := 1) hD.x3 rfl; have g2 := at_cell (i := 2) hD.x3 rfl; have d0 := at_cell (i := 0) hD.xd rfl; have d1 := at_cell (i := 1) hD.xd rfl; have d2 := at_cell (i := 2) hD.xd rfl)
            | (refine wpList_dc2 hD rfl _ _ rfl rfl _ rfl ?_; clear g0 g1 g2 d0 d1 d2 hD; intro wn hD; have g0 := at_cell (i := 0) hD.x3 rfl; have g1 := at_cell (i := 1) hD.x3 rfl; have g2 := at_cell (i := 2) hD.x3 rfl; have d0 := at_cell (i := 0) hD.xd rfl; have d1 := at_cell (i := 1) hD.xd rfl; have d2 := at_cell (i := 2) hD.xd rfl)
            | (refine wpList_dwk hD rfl _ _ rfl rfl _ rfl ?_; clear g0 g1 g2 d0 d1 d2 hD; intro wn hD; have g0 := at_cell (i := 0) hD.x3 rfl; have g1 := at_cell (i := 1) hD.x3 rfl; have g2 := at_cell (i := 2) hD.x3 rfl; have d0 := at_cell (i := 0) hD.xd rfl; have d1 := at_cell (i := 1) hD.xd rfl; have d2 := at_cell (i := 2) hD.xd rfl))
          have hD := HD9.out.call ((Below.refl _ _).alloc (Nat.le_refl _) (.cells #[.string (tx nm), .int .u64 (hh : Int), .bool ((qb : Int) == 1)] 55))
          have hx3' := (HG6.out.block b3 (lt_heapw hD.x3) (fun e => hD.o3 e.symm)).trans hD.x3
          have hx7' := (HG6.out.block b7 (lt_heapw hD.x7) (fun e => hD.o7 e.symm)).trans hD.x7
          have hb6 : Below w.heap.size w w6 := hD.b.grown HG6.out hD.b.size (fun j hj => by have h1 := own_block hD.own j hj; have h2 := HB8S.out; omega)
          rw [HA2.out] at hx3'
          refine ⟨⟨i + 1, v6, HI.out, rfl, rfl, ?_, ?_, ?_, hx7', hb6⟩, by show m - (i + 1) < m - i; have := HI.out; omega⟩
          · rw [HN.out]
            have h9 := HO6.out
            rw [show dps sl ++ dps [⟨nm, (hh : Int), ((qb : Int) == 1)⟩] = dps (sl ++ [⟨nm, (hh : Int), ((qb : Int) == 1)⟩]) from List.flatMap_append.symm] at h9
            simp only [List.length_append, List.length_singleton]
            exact h9
          · rw [HN.out]
            simp only [List.length_append, List.length_singleton]
            have := HLN.out
            omega
          · rw [HN.out]
            exact hx3'
      · obtain rfl : i = m := by omega
        obtain ⟨A9, c9, rfl, hA9⟩ := own_slice hown
        have HOW := Lib.hid hown
        have HX7L := Lib.hid hx7
        have HBL := Lib.hid hb
        have HO7 : Hid ((Value.slice A9 sl.length c9).ownBlock ≠ some b7) := fun e => (by have h1 := own_block hown _ e; have h2 := HB7E.out; have h3 := HB8E.out; omega)
        have HA9 := Lib.hid hA9
        have g0 := at_cell (i := 0) hx3 rfl
        have g1 := at_cell (i := 1) hx3 rfl
        have g2 := at_cell (i := 2) hx3 rfl
        have f0 := at_cell (i := 0) hx7 rfl
        have f1 := at_cell (i := 1) hx7 rfl
        have f2 := at_cell (i := 2) hx7 rfl
        have z0 : wr.frozen? ⟨b7, 0, none⟩ = false := at_frozen hx7
        have z1 : wr.frozen? ⟨b7, 1, none⟩ = false := at_frozen hx7
        have z2 : wr.frozen? ⟨b7, 2, none⟩ = false := at_frozen hx7
        have HRES : Hid (dDs ver tl i ([], c) = (sl, sc)) := HST.out.symm
        have hb7w : w.heap.size ≤ b7 := by have := HB7E.out; omega
        obtain ⟨ls, hls⟩ : ∃ ls, ls = sl.length := ⟨_, rfl⟩
        have HLS := Lib.hid hls
        rw [← hls] at HOW ⊢
        obtain ⟨a0, ha0e⟩ : ∃ a0, a0 = atV sc := ⟨_, rfl⟩
        have HA0 := Lib.hid ha0e
        rw [← ha0e] at g1 ha0
        clear hi hown hlen hx3 hx7 hb hadv hin hA9 hls ha0e
        go_wp2_with fail
        go_region
        all_goals (try go_wp2)
        (try simp only [Exit.inBlock, Exit.then])
        refine bodyPost_ret (results_tc_row Try.results67 _ _ b7 _ _ (0, 0) _ rfl (wk_set HX7L.out _ _ _) Try.underlying101 rfl (by kernel_rfl)) rfl ?_
        rw [HRES.out]
        have hls := HLS.out
        have ha0 := HA0.out
        subst hls
        subst ha0
        refine ⟨⟨A9, c9, rfl, HA9.out, ?_⟩, (((HBL.out.setCell (p := ⟨b7, 0, none⟩) hb7w _).setCell (p := ⟨b7, 1, none⟩) hb7w _).setCell (p := ⟨b7, 2, none⟩) hb7w _).drew⟩
        exact own_less (ownsRow_setCell_other (ownsRow_setCell_other (ownsRow_setCell_other HOW.out HO7.out _) HO7.out _) HO7.out _) HB8S.out
    · have hneg : ¬ (atV sc ≥ 0) := by unfold atV; rw [if_neg he]; omega
      have hRES := HSTOP.out he
      by_cases hlt : i < m
      · have hlu : (i : Int) < (m : Int) := by omega
        obtain ⟨A9, c9, rfl, hA9⟩ := own_slice hown
        have HOW := Lib.hid hown
        have HX7L := Lib.hid hx7
        have HBL := Lib.hid hb
        have HO7 : Hid ((Value.slice A9 sl.length c9).ownBlock ≠ some b7) := fun e => (by have h1 := own_block hown _ e; have h2 := HB7E.out; have h3 := HB8E.out; omega)
        have HA9 := Lib.hid hA9
        have g0 := at_cell (i := 0) hx3 rfl
        have g1 := at_cell (i := 1) hx3 rfl
        have g2 := at_cell (i := 2) hx3 rfl
        have f0 := at_cell (i := 0) hx7 rfl
        have f1 := at_cell (i := 1) hx7 rfl
        have f2 := at_cell (i := 2) hx7 rfl
        have z0 : wr.frozen? ⟨b7, 0, none⟩ = false := at_frozen hx7
        have z1 : wr.frozen? ⟨b7, 1, none⟩ = false := at_frozen hx7
        have z2 : wr.frozen? ⟨b7, 2, none⟩ = false := at_frozen hx7
        have HRES : Hid (dDs ver tl m ([], c) = (sl, sc)) := hRES
        have hb7w : w.heap.size ≤ b7 := by have := HB7E.out; omega
        obtain ⟨ls, hls⟩ : ∃ ls, ls = sl.length := ⟨_, rfl⟩
        have HLS := Lib.hid hls
        rw [← hls] at HOW ⊢
        obtain ⟨a0, ha0e⟩ : ∃ a0, a0 = atV sc := ⟨_, rfl⟩
        have HA0 := Lib.hid ha0e
        rw [← ha0e] at g1 hneg
        clear hi hown hlen hx3 hx7 hb hadv hin hA9 hls ha0e
        go_wp2_with fail
        go_region
        all_goals (try go_wp2)
        (try simp only [Exit.inBlock, Exit.then])
        refine bodyPost_ret (results_tc_row Try.results67 _ _ b7 _ _ (0, 0) _ rfl (wk_set HX7L.out _ _ _) Try.underlying101 rfl (by kernel_rfl)) rfl ?_
        rw [HRES.out]
        have hls := HLS.out
        have ha0 := HA0.out
        subst hls
        subst ha0
        refine ⟨⟨A9, c9, rfl, HA9.out, ?_⟩, (((HBL.out.setCell (p := ⟨b7, 0, none⟩) hb7w _).setCell (p := ⟨b7, 1, none⟩) hb7w _).setCell (p := ⟨b7, 2, none⟩) hb7w _).drew⟩
        exact own_less (ownsRow_setCell_other (ownsRow_setCell_other (ownsRow_setCell_other HOW.out HO7.out _) HO7.out _) HO7.out _) HB8S.out
      · obtain rfl : i = m := by omega
        obtain ⟨A9, c9, rfl, hA9⟩ := own_slice hown
        have HOW := Lib.hid hown
        have HX7L := Lib.hid hx7
        have HBL := Lib.hid hb
        have HO7 : Hid ((Value.slice A9 sl.length c9).ownBlock ≠ some b7) := fun e => (by have h1 := own_block hown _ e; have h2 := HB7E.out; have h3 := HB8E.out; omega)
        have HA9 := Lib.hid hA9
        have g0 := at_cell (i := 0) hx3 rfl
        have g1 := at_cell (i := 1) hx3 rfl
        have g2 := at_cell (i := 2) hx3 rfl
        have f0 := at_cell (i := 0) hx7 rfl
        have f1 := at_cell (i := 1) hx7 rfl
        have f2 := at_cell (i := 2) hx7 rfl
        have z0 : wr.frozen? ⟨b7, 0, none⟩ = false := at_frozen hx7
        have z1 : wr.frozen? ⟨b7, 1, none⟩ = false := at_frozen hx7
        have z2 : wr.frozen? ⟨b7, 2, none⟩ = false := at_frozen hx7
        have HRES : Hid (dDs ver tl i ([], c) = (sl, sc)) := hRES
        have hb7w : w.heap.size ≤ b7 := by have := HB7E.out; omega
        obtain ⟨ls, hls⟩ : ∃ ls, ls = sl.length := ⟨_, rfl⟩
        have HLS := Lib.hid hls
        rw [← hls] at HOW ⊢
        obtain ⟨a0, ha0e⟩ : ∃ a0, a0 = atV sc := ⟨_, rfl⟩
        have HA0 := Lib.hid ha0e
        rw [← ha0e] at g1 hneg
        clear hi hown hlen hx3 hx7 hb hadv hin hA9 hls ha0e
        go_wp2_with fail
        go_region
        all_goals (try go_wp2)
        (try simp only [Exit.inBlock, Exit.then])
        refine bodyPost_ret (results_tc_row Try.results67 _ _ b7 _ _ (0, 0) _ rfl (wk_set HX7L.out _ _ _) Try.underlying101 rfl (by kernel_rfl)) rfl ?_
        rw [HRES.out]
        have hls := HLS.out
        have ha0 := HA0.out
        subst hls
        subst ha0
        refine ⟨⟨A9, c9, rfl, HA9.out, ?_⟩, (((HBL.out.setCell (p := ⟨b7, 0, none⟩) hb7w _).setCell (p := ⟨b7, 1, none⟩) hb7w _).setCell (p := ⟨b7, 2, none⟩) hb7w _).drew⟩
        exact own_less (ownsRow_setCell_other (ownsRow_setCell_other (ownsRow_setCell_other HOW.out HO7.out _) HO7.out _) HO7.out _) HB8S.out

end Go.Proofs.Ytidkahmjjknkmaa
