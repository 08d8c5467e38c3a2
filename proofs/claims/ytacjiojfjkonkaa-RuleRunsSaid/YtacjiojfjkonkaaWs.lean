/- RuleRuns. -/
import Derived.Test.YtacjiojfjkonkaaWrc
import Derived.Test.YtacjiojfjkonkaaWra
import Derived.Test.YtacjiojfjkonkaaWr2
import Derived.Test.YtacjiojfjkonkaaDm
namespace Go.Proofs.Ytacjiojfjkonkaa
open Go.RowKit

theorem lt_of_heap {W : World} {a : Nat} {o : Obj} (h : W.heap[a]? = some o) : a < W.heap.size := (Array.getElem?_eq_some_iff.1 h).1

set_option maxRecDepth 100000 in
set_option maxHeartbeats 4000000 in
theorem rruns_any (x : Nw) (L : Option Addr) (m d : Nat) (qs : List Q64) (G : Option Addr) (gn gc : Nat) (gs : List Stp) (w : World) (hg : NGood w x) (hru : RuleOk x.d) (hmx : m ≤ maxLen) (hr : Reads w w.heap.size 1 L m (qs.map qv)) (hgm : gn ≤ maxLen) (hgl : ∀ x ∈ gs, x.name.length ≤ maxLen) (hs : Steps w w.heap.size G gn gs) :
    Calls Try.prog 4 #[x.val, .slice L m d, .slice G gn gc] w fun e w' => e = .returned (.bool true) ∧ Below w.heap.size w w' := by
  obtain ⟨hfit, hnc, hcm, hac, hx⟩ := hg
  have HFW := Lib.hid (fun (W : World) (hb : Below w.heap.size w W) => few_any G gn gc gs hgm hgl W ((hs.below hb).more hb.size))
  have hm63 : (m : Int) ≤ 9223372036854775807 := by unfold maxLen at hmx; omega
  have hnl := hfit.1
  obtain ⟨⟨nm, sc, ru, ds⟩, xA, xn, xc⟩ := x
  have hru2 : qv (rq ru) = .int .u64 ru := hru
  obtain ⟨q, hq⟩ : ∃ q, q = nm.length := ⟨_, rfl⟩
  have hs0 := tx_size0 nm
  simp only at hnl
  rw [← hq] at hs0 hnl
  unfold maxLen at hnl
  unfold Nw.val at *
  simp only at *
  have H0 := Lib.hid (one_new w (.cells #[.string (tx nm), .bool sc, .int .u64 ru, .slice xA xn xc] 37))
  have HB0 := Lib.hid ((Below.refl w.heap.size w).alloc (Nat.le_refl _) (.cells #[.string (tx nm), .bool sc, .int .u64 ru, .slice xA xn xc] 37))
  have HS0 : Hid (w.heap.size < (w.alloc (.cells #[.string (tx nm), .bool sc, .int .u64 ru, .slice xA xn xc] 37)).heap.size) := by show w.heap.size < _; simp
  have q0 := at_cell (i := 0) H0.out rfl
  have q1 := at_cell (i := 1) H0.out rfl
  have q2 := at_cell (i := 2) H0.out rfl
  have q3 := at_cell (i := 3) H0.out rfl
  by_cases h100 : m ≤ 100
  · have d1 : decide ((m : Int) > 100) = false := decide_eq_false (by omega)
    by_cases fw : FewS gs
    · have FWH := Lib.hid fw
      have hgn : gn ≤ 100 := by rw [← hs.len]; exact fw.2
      by_cases hn100 : q ≤ 100
      · have d2 : decide ((q : Int) > 100) = false := decide_eq_false (by omega)
        have HRUN := Lib.hid (fun (W : World) (hb : Below w.heap.size w W) => run_any nm sc (rq ru) xA xn xc L m d qs (by omega) W ((hr.below hb).more hb.size))
        have HREF := Lib.hid (fun (W : World) (hb : Below w.heap.size w W) => reffold_any L m d (rq ru) qs (by omega) W.heap.size W ((hr.below hb).more hb.size))
        have HGIV := Lib.hid (fun (W : World) (hb : Below w.heap.size w W) => given_any G gn gc gs nm (by omega) W ((hs.below hb).more hb.size))
        have HRGIV := Lib.hid (fun (W : World) (hb : Below w.heap.size w W) => rgiven_any G gn gc gs nm (by omega) W ((hs.below hb).more hb.size))
        rw [hru2] at HRUN HREF
        obtain ⟨k1, hk1⟩ : ∃ k : Int, qv (foq (dg (rq ru)) qs) = .int .u64 k := ⟨_, rfl⟩
        obtain ⟨k2, hk2⟩ : ∃ k : Int, qv (givN gs nm gn) = .int .u64 k := ⟨_, rfl⟩
        rw [hk1] at HRUN HREF
        rw [hk2] at HGIV HRGIV
        clear hr hgl hs fw hfit hx hac hcm hru hru2 hk1 hk2 hq
        go_enter Try.func4, Try.ntmps4
        go_wp2_with (first
          | (go_at_call 7; refine (HFW.out _ HB0.out).mono ?_; rintro e w2 ⟨he, hb2⟩; obtain rfl := he.yes FWH.out; have HB2 := Lib.hid (HB0.out.trans (hb2.mono HB0.out.size)); have HN2 := Lib.hid ((hb2.block w.heap.size HS0.out).trans H0.out); have q0 := at_cell (i := 0) HN2.out rfl; have q1 := at_cell (i := 1) HN2.out rfl; have q2 := at_cell (i := 2) HN2.out rfl; have q3 := at_cell (i := 3) HN2.out rfl; clear hb2))
        have HSD : Hid (w2.drew.heap[w.heap.size]? = some (.cells #[.string (tx nm), .bool sc, .int .u64 ru, .slice xA xn xc] 37) ∧ Below w.heap.size w w2.drew) := ⟨HN2.out, HB2.out.drew⟩
        refine wp_region_held (S := fun v => v.heap[w.heap.size]? = some (.cells #[.string (tx nm), .bool sc, .int .u64 ru, .slice xA xn xc] 37) ∧ Below w.heap.size w v) (by kernel_rfl) ?_
        refine h_one 0 rfl (by kernel_rfl) (by kernel_rfl) (fun K hK => ?_)
        go_simp
        refine (qfixed_any _).mono ?_
        rintro e wf ⟨rfl, hbf⟩
        have HF : Hid (wf.heap[w.heap.size]? = some (.cells #[.string (tx nm), .bool sc, .int .u64 ru, .slice xA xn xc] 37) ∧ Below w.heap.size w wf) := ⟨(hbf.block w.heap.size (lt_of_heap HSD.out.1)).trans HSD.out.1, HSD.out.2.trans (hbf.mono HSD.out.2.size)⟩
        clear hbf
        refine hK _ _ HF.out ?_
        clear hK K
        refine h_take 1 (.bool true) rfl (by kernel_rfl) (by kernel_rfl) (by kernel_rfl) (fun _ _ _ h => h) (by kernel_rfl) HF.out (fun _ _ => by kernel_rfl) ?_
        refine h_take 2 (.agg #[.string (tx nm), .bool sc, .int .u64 ru, .slice xA xn xc]) rfl (by kernel_rfl) (by kernel_rfl) (by kernel_rfl) (fun _ _ _ h => h) (by kernel_rfl) HF.out (by intro v hv; have b0 := at_cell (i := 0) hv.1 rfl; have b1 := at_cell (i := 1) hv.1 rfl; have b2 := at_cell (i := 2) hv.1 rfl; have b3 := at_cell (i := 3) hv.1 rfl; go_simp) ?_
        refine h_take 3 (.slice L m d) rfl (by kernel_rfl) (by kernel_rfl) (by kernel_rfl) (fun _ _ _ h => h) (by kernel_rfl) HF.out (fun _ _ => by kernel_rfl) ?_
        refine h_take 5 (.pointer (some ⟨w.heap.size, 2, none⟩)) rfl (by kernel_rfl) (by kernel_rfl) (by kernel_rfl) (fun _ _ _ h => h) (by kernel_rfl) HF.out (fun _ _ => by kernel_rfl) ?_
        refine h_take 6 (.int .u64 ru) rfl (by kernel_rfl) (by kernel_rfl) (by kernel_rfl) (fun _ _ _ h => h) (by kernel_rfl) HF.out (by intro v hv; have b0 := at_cell (i := 0) hv.1 rfl; have b1 := at_cell (i := 1) hv.1 rfl; have b2 := at_cell (i := 2) hv.1 rfl; have b3 := at_cell (i := 3) hv.1 rfl; go_simp) ?_
        refine h_take 7 (.slice L m d) rfl (by kernel_rfl) (by kernel_rfl) (by kernel_rfl) (fun _ _ _ h => h) (by kernel_rfl) HF.out (fun _ _ => by kernel_rfl) ?_
        refine h_one 4 rfl (by kernel_rfl) (by kernel_rfl) (fun K hK => ?_)
        go_simp
        refine (HRUN.out _ HF.out.2).mono ?_
        rintro e wg ⟨rfl, hbg⟩
        have HGW : Hid (wg.heap[w.heap.size]? = some (.cells #[.string (tx nm), .bool sc, .int .u64 ru, .slice xA xn xc] 37) ∧ Below w.heap.size w wg) := ⟨(hbg.block w.heap.size (lt_of_heap HF.out.1)).trans HF.out.1, HF.out.2.trans (hbg.mono HF.out.2.size)⟩
        clear hbg
        refine hK _ _ HGW.out ?_
        clear hK K
        refine h_one 8 rfl (by kernel_rfl) (by kernel_rfl) (fun K hK => ?_)
        go_simp
        refine (HREF.out _ HGW.out.2).mono ?_
        rintro e wh ⟨rfl, rfl⟩
        refine hK _ _ HGW.out ?_
        clear hK K
        refine h_take 9 (.bool true) rfl (by kernel_rfl) (by kernel_rfl) (by kernel_rfl) (fun _ _ _ h => h) (by kernel_rfl) HGW.out (by intro v hv; go_simp) ?_
        refine h_take 10 (.bool true) rfl (by kernel_rfl) (by kernel_rfl) (by kernel_rfl) (fun _ _ _ h => h) (by kernel_rfl) HGW.out (fun _ _ => by kernel_rfl) ?_
        refine h_take 11 (.bool true) rfl (by kernel_rfl) (by kernel_rfl) (by kernel_rfl) (fun _ _ _ h => h) (by kernel_rfl) HGW.out (fun _ _ => by kernel_rfl) ?_
        refine h_take 12 (.slice G gn gc) rfl (by kernel_rfl) (by kernel_rfl) (by kernel_rfl) (fun _ _ _ h => h) (by kernel_rfl) HGW.out (fun _ _ => by kernel_rfl) ?_
        refine h_take 13 (.pointer (some ⟨w.heap.size, 0, none⟩)) rfl (by kernel_rfl) (by kernel_rfl) (by kernel_rfl) (fun _ _ _ h => h) (by kernel_rfl) HGW.out (fun _ _ => by kernel_rfl) ?_
        refine h_take 14 (.string (tx nm)) rfl (by kernel_rfl) (by kernel_rfl) (by kernel_rfl) (fun _ _ _ h => h) (by kernel_rfl) HGW.out (by intro v hv; have b0 := at_cell (i := 0) hv.1 rfl; have b1 := at_cell (i := 1) hv.1 rfl; have b2 := at_cell (i := 2) hv.1 rfl; have b3 := at_cell (i := 3) hv.1 rfl; go_simp) ?_
        refine h_take 16 (.slice G gn gc) rfl (by kernel_rfl) (by kernel_rfl) (by kernel_rfl) (fun _ _ _ h => h) (by kernel_rfl) HGW.out (fun _ _ => by kernel_rfl) ?_
        refine h_take 17 (.pointer (some ⟨w.heap.size, 0, none⟩)) rfl (by kernel_rfl) (by kernel_rfl) (by kernel_rfl) (fun _ _ _ h => h) (by kernel_rfl) HGW.out (fun _ _ => by kernel_rfl) ?_
        refine h_take 18 (.string (tx nm)) rfl (by kernel_rfl) (by kernel_rfl) (by kernel_rfl) (fun _ _ _ h => h) (by kernel_rfl) HGW.out (by intro v hv; have b0 := at_cell (i := 0) hv.1 rfl; have b1 := at_cell (i := 1) hv.1 rfl; have b2 := at_cell (i := 2) hv.1 rfl; have b3 := at_cell (i := 3) hv.1 rfl; go_simp) ?_
        refine h_one 15 rfl (by kernel_rfl) (by kernel_rfl) (fun K hK => ?_)
        go_simp
        refine (HGIV.out _ HGW.out.2).mono ?_
        rintro e wi ⟨rfl, rfl⟩
        refine hK _ _ HGW.out ?_
        clear hK K
        refine h_one 19 rfl (by kernel_rfl) (by kernel_rfl) (fun K hK => ?_)
        go_simp
        refine (HRGIV.out _ HGW.out.2).mono ?_
        rintro e wj ⟨rfl, rfl⟩
        refine hK _ _ HGW.out ?_
        clear hK K
        refine h_take 20 (.bool true) rfl (by kernel_rfl) (by kernel_rfl) (by kernel_rfl) (fun _ _ _ h => h) (by kernel_rfl) HGW.out (by intro v hv; go_simp) ?_
        refine h_take 21 (.bool true) rfl (by kernel_rfl) (by kernel_rfl) (by kernel_rfl) (fun _ _ _ h => h) (by kernel_rfl) HGW.out (fun _ _ => by kernel_rfl) ?_
        refine h_take 22 (.bool true) rfl (by kernel_rfl) (by kernel_rfl) (by kernel_rfl) (fun _ _ _ h => h) (by kernel_rfl) HGW.out (fun _ _ => by kernel_rfl) ?_
        refine wpAnyH_done (by kernel_rfl) ?_ _
        go_simp
        go_wp2
        go_ret
        exact ⟨rfl, HGW.out.2⟩
      · have d2 : decide ((q : Int) > 100) = true := decide_eq_true (by omega)
        clear hr hgl hs fw hfit hx hac hcm hru hru2 hq
        go_enter Try.func4, Try.ntmps4
        go_wp2_with (first
          | (go_at_call 8; refine (qfixed_any _).mono ?_; rintro e w3 ⟨rfl, hb3⟩; have HB3 := Lib.hid (HB2.out.trans (hb3.mono HB2.out.size)); clear hb3)
          | (go_at_call 7; refine (HFW.out _ HB0.out).mono ?_; rintro e w2 ⟨he, hb2⟩; obtain rfl := he.yes FWH.out; have HB2 := Lib.hid (HB0.out.trans (hb2.mono HB0.out.size)); have HN2 := Lib.hid ((hb2.block w.heap.size HS0.out).trans H0.out); have q0 := at_cell (i := 0) HN2.out rfl; have q1 := at_cell (i := 1) HN2.out rfl; have q2 := at_cell (i := 2) HN2.out rfl; have q3 := at_cell (i := 3) HN2.out rfl; clear hb2))
        go_ret
        exact ⟨rfl, HB3.out⟩
    · have FWH := Lib.hid fw
      clear hr hgl hs fw hfit hx hac hcm hru hru2 hq
      go_enter Try.func4, Try.ntmps4
      go_wp2_with (first
        | (go_at_call 8; refine (qfixed_any _).mono ?_; rintro e w3 ⟨rfl, hb3⟩; have HB3 := Lib.hid (HB2.out.trans (hb3.mono HB2.out.size)); clear hb3)
        | (go_at_call 7; refine (HFW.out _ HB0.out).mono ?_; rintro e w2 ⟨he, hb2⟩; obtain rfl := he.no FWH.out; have HB2 := Lib.hid (HB0.out.trans (hb2.mono HB0.out.size)); have HN2 := Lib.hid ((hb2.block w.heap.size HS0.out).trans H0.out); have q0 := at_cell (i := 0) HN2.out rfl; have q1 := at_cell (i := 1) HN2.out rfl; have q2 := at_cell (i := 2) HN2.out rfl; have q3 := at_cell (i := 3) HN2.out rfl; clear hb2))
      go_ret
      exact ⟨rfl, HB3.out⟩
  · have d1 : decide ((m : Int) > 100) = true := decide_eq_true (by omega)
    clear hr hgl hs hfit hx hac hcm hru hru2 hq
    go_enter Try.func4, Try.ntmps4
    go_wp2_with (first
      | (go_at_call 8; refine (qfixed_any _).mono ?_; rintro e w3 ⟨rfl, hb3⟩; have HB3 := Lib.hid (HB0.out.trans (hb3.mono HB0.out.size)); clear hb3))
    go_ret
    exact ⟨rfl, HB3.out⟩

set_option maxRecDepth 100000 in
theorem open_nodeq {H : Type} {enc : TypeId × Value → H} {W : World} {v : Value} {d : DataW H} {ps : List MemPlace} {r0 : Reach} {b0 : Nat} (hval : Value.okWide Try.prog W r0 b0 37 v) (hd : DataW.Trod enc Try.prog W 0 (fun _ => true) true 37 v d ps) :
    ∃ x : Nw, v = x.val ∧ NGood W x ∧ RuleOk x.d := by
  obtain ⟨cs, rfl, _⟩ := Go.WideShapes.okWide_struct Try.underlying37 hval
  obtain ⟨fuel, hf⟩ := hd
  obtain ⟨x, h1, h2, h3⟩ := open_ncellsq hf
  refine ⟨x, ?_, h2, h3⟩
  have : cs = x.cells.toArray := by
    apply Array.ext'
    simpa [Value.cells] using h1
  rw [this]
  rfl

end Go.Proofs.Ytacjiojfjkonkaa
