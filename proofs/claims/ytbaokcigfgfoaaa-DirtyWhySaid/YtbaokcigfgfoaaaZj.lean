/- DirtyWhy. -/
import Derived.Test.YtbaokcigfgfoaaaZi
import Derived.Test.YtbaokcigfgfoaaaTb
import Derived.Test.YtbaokcigfgfoaaaXd0
import Derived.Test.YtbaokcigfgfoaaaH3
namespace Go.Proofs.Ytbaokcigfgfoaaa
open Go.RowKit

set_option maxRecDepth 100000 in
set_option maxHeartbeats 4000000 in
theorem dwhy_any (x : Nw) (B : Option Addr) (q c0 : Nat) (xs : List Rw) (H : Option Addr) (m d : Nat) (hs : List Int) (w : World) (hg : NGood w x) (hq : q ≤ maxLen) (hf : ∀ x ∈ xs, Fits x.r x.l ∧ x.n ≤ maxLen) (hm : m ≤ maxLen) (hr : Recs w w.heap.size B q xs) (hh : Reads w w.heap.size 1 H m (hs.map (Value.int .u64))) :
    Calls Try.prog 3 #[x.val, .slice B q c0, .slice H m d] w fun e w' => e = .returned (.bool true) ∧ Below w.heap.size w w' := by
  obtain ⟨hfit, hnc, hcm, hac, hx⟩ := hg
  have hxn : x.n ≤ maxLen := by omega
  have HG := Lib.hid (fun (W : World) (hb : Below w.heap.size w W) => greats_any B q c0 xs hq hf W ((hr.below hb).more hb.size))
  have HNG := Lib.hid (fun (W : World) (hb : Below w.heap.size w W) => ngreat_any x hfit hxn W (Reads.more (Reads.below hx hb) hb.size))
  have hm63 : (m : Int) ≤ 9223372036854775807 := by unfold maxLen at hm; omega
  by_cases sn : NSm x.d
  · by_cases sm : smalls xs
    · have SN := Lib.hid sn
      have SM := Lib.hid sm
      have hl : xs.length = q := hr.len
      have h30 : q ≤ 30 := by rw [← hl]; exact sm.2
      have hxl : x.d.deps.length = x.n := hx.len
      have hx60 : x.n ≤ 60 := by rw [← hxl]; exact sn.2.1
      have hy : ∀ y ∈ xs, y.n ≤ 1000000 := fun y hy => by
        have e1 := (hr.2 y hy).1.1
        rw [dps_len] at e1
        have e2 := (sm.1 y hy).2.1
        omega
      have HW := Lib.hid (fun (W : World) (hb : Below w.heap.size w W) => why_any x B q c0 xs H m d hs (by omega) (by omega) hy W (Reads.more (Reads.below hx hb) hb.size) ((hr.below hb).more hb.size) ((hh.below hb).more hb.size))
      have HRW := Lib.hid (fun (W : World) (hb : Below w.heap.size w W) => rwhy_any x B q c0 xs H m d hs (by omega) (by omega) hy W (Reads.more (Reads.below hx hb) hb.size) ((hr.below hb).more hb.size) ((hh.below hb).more hb.size))
      obtain ⟨⟨nm, sc, ru, ds⟩, xA, xn, xc⟩ := x
      unfold Nw.val at *
      simp only at *
      have H0 := Lib.hid (one_new w (.cells #[.string (tx nm), .bool sc, .int .u64 ru, .slice xA xn xc] 25))
      have HB0 := Lib.hid ((Below.refl w.heap.size w).alloc (Nat.le_refl _) (.cells #[.string (tx nm), .bool sc, .int .u64 ru, .slice xA xn xc] 25))
      have HS0 : Hid (w.heap.size < (w.alloc (.cells #[.string (tx nm), .bool sc, .int .u64 ru, .slice xA xn xc] 25)).heap.size) := by show w.heap.size < _; simp
      have q0 := at_cell (i := 0) H0.out rfl
      have q1 := at_cell (i := 1) H0.out rfl
      have q2 := at_cell (i := 2) H0.out rfl
      have q3 := at_cell (i := 3) H0.out rfl
      clear hr hh hf hfit hx hl h30 hxl hx60 hy sn sm hxn hcm hac
      by_cases h60 : m ≤ 60
      · have d1 : decide ((m : Int) > 60) = false := decide_eq_false (by omega)
        go_enter Try.func3, Try.ntmps3
        go_wp2_with (first
          | (go_at_call 7; refine (HG.out _ HB2.out).mono ?_; rintro e w3 ⟨he, hb3⟩; obtain rfl := he.no (fun h => h SM.out); have HB3 := Lib.hid (HB2.out.trans (hb3.mono HB2.out.size)); have HN3 := Lib.hid ((hb3.block w.heap.size (lt_of_heap HN2.out)).trans HN2.out); have q0 := at_cell (i := 0) HN3.out rfl; have q1 := at_cell (i := 1) HN3.out rfl; have q2 := at_cell (i := 2) HN3.out rfl; have q3 := at_cell (i := 3) HN3.out rfl; clear hb3)
          | (go_at_call 6; refine (HNG.out _ HB0.out).mono ?_; rintro e w2 ⟨he, hb2⟩; obtain rfl := he.no (fun h => h SN.out); have HB2 := Lib.hid (HB0.out.trans (hb2.mono HB0.out.size)); have HN2 := Lib.hid ((hb2.block w.heap.size HS0.out).trans H0.out); have q0 := at_cell (i := 0) HN2.out rfl; have q1 := at_cell (i := 1) HN2.out rfl; have q2 := at_cell (i := 2) HN2.out rfl; have q3 := at_cell (i := 3) HN2.out rfl; clear hb2))
        have HSD : Hid (w3.drew.heap[w.heap.size]? = some (.cells #[.string (tx nm), .bool sc, .int .u64 ru, .slice xA xn xc] 25) ∧ Below w.heap.size w w3.drew) := ⟨HN3.out, HB3.out.drew⟩
        refine wp_region_held (S := fun v => v.heap[w.heap.size]? = some (.cells #[.string (tx nm), .bool sc, .int .u64 ru, .slice xA xn xc] 25) ∧ Below w.heap.size w v) (by kernel_rfl) ?_
        refine h_one 0 rfl (by kernel_rfl) (by kernel_rfl) (fun K hK => ?_)
        go_simp
        refine (dfixed_any _).mono ?_
        rintro e wf ⟨rfl, hbf⟩
        have HF : Hid (wf.heap[w.heap.size]? = some (.cells #[.string (tx nm), .bool sc, .int .u64 ru, .slice xA xn xc] 25) ∧ Below w.heap.size w wf) := ⟨(hbf.block w.heap.size (lt_of_heap HSD.out.1)).trans HSD.out.1, HSD.out.2.trans (hbf.mono HSD.out.2.size)⟩
        clear hbf
        refine hK _ _ HF.out ?_
        clear hK K
        refine h_take 1 (.bool true) rfl (by kernel_rfl) (by kernel_rfl) (by kernel_rfl) (fun _ _ _ h => h) (by kernel_rfl) HF.out (fun _ _ => by kernel_rfl) ?_
        refine h_take 2 (.agg #[.string (tx nm), .bool sc, .int .u64 ru, .slice xA xn xc]) rfl (by kernel_rfl) (by kernel_rfl) (by kernel_rfl) (fun _ _ _ h => h) (by kernel_rfl) HF.out (by intro v hv; have b0 := at_cell (i := 0) hv.1 rfl; have b1 := at_cell (i := 1) hv.1 rfl; have b2 := at_cell (i := 2) hv.1 rfl; have b3 := at_cell (i := 3) hv.1 rfl; go_simp) ?_
        refine h_take 6 (.agg #[.string (tx nm), .bool sc, .int .u64 ru, .slice xA xn xc]) rfl (by kernel_rfl) (by kernel_rfl) (by kernel_rfl) (fun _ _ _ h => h) (by kernel_rfl) HF.out (by intro v hv; have b0 := at_cell (i := 0) hv.1 rfl; have b1 := at_cell (i := 1) hv.1 rfl; have b2 := at_cell (i := 2) hv.1 rfl; have b3 := at_cell (i := 3) hv.1 rfl; go_simp) ?_
        refine h_take 3 (.slice B q c0) rfl (by kernel_rfl) (by kernel_rfl) (by kernel_rfl) (fun _ _ _ h => h) (by kernel_rfl) HF.out (fun _ _ => by kernel_rfl) ?_
        refine h_take 7 (.slice B q c0) rfl (by kernel_rfl) (by kernel_rfl) (by kernel_rfl) (fun _ _ _ h => h) (by kernel_rfl) HF.out (fun _ _ => by kernel_rfl) ?_
        refine h_take 4 (.slice H m d) rfl (by kernel_rfl) (by kernel_rfl) (by kernel_rfl) (fun _ _ _ h => h) (by kernel_rfl) HF.out (fun _ _ => by kernel_rfl) ?_
        refine h_take 8 (.slice H m d) rfl (by kernel_rfl) (by kernel_rfl) (by kernel_rfl) (fun _ _ _ h => h) (by kernel_rfl) HF.out (fun _ _ => by kernel_rfl) ?_
        refine h_one 5 rfl (by kernel_rfl) (by kernel_rfl) (fun K hK => ?_)
        go_simp
        refine (HW.out _ HF.out.2).mono ?_
        rintro e wg ⟨z, hz, rfl, hbg⟩
        have HZ := Lib.hid hz
        have HGW : Hid (wg.heap[w.heap.size]? = some (.cells #[.string (tx nm), .bool sc, .int .u64 ru, .slice xA xn xc] 25) ∧ Below w.heap.size w wg) := ⟨(hbg.block w.heap.size (lt_of_heap HF.out.1)).trans HF.out.1, HF.out.2.trans (hbg.mono HF.out.2.size)⟩
        clear hbg
        clear hz
        refine hK _ _ HGW.out ?_
        clear hK K
        refine h_one 9 rfl (by kernel_rfl) (by kernel_rfl) (fun K hK => ?_)
        go_simp
        refine (HRW.out _ HGW.out.2).mono ?_
        rintro e wh ⟨y, hy, rfl, hbh⟩
        obtain rfl : y = z := whyN_one hy HZ.out
        have HHW : Hid (wh.heap[w.heap.size]? = some (.cells #[.string (tx nm), .bool sc, .int .u64 ru, .slice xA xn xc] 25) ∧ Below w.heap.size w wh) := ⟨(hbh.block w.heap.size (lt_of_heap HGW.out.1)).trans HGW.out.1, HGW.out.2.trans (hbh.mono HGW.out.2.size)⟩
        clear hbh
        clear hy
        refine hK _ _ HHW.out ?_
        clear hK K
        refine h_take 10 (.bool true) rfl (by kernel_rfl) (by kernel_rfl) (by kernel_rfl) (fun _ _ _ h => h) (by kernel_rfl) HHW.out (by intro v hv; go_simp) ?_
        refine h_take 11 (.bool true) rfl (by kernel_rfl) (by kernel_rfl) (by kernel_rfl) (fun _ _ _ h => h) (by kernel_rfl) HHW.out (fun _ _ => by kernel_rfl) ?_
        refine h_take 12 (.bool true) rfl (by kernel_rfl) (by kernel_rfl) (by kernel_rfl) (fun _ _ _ h => h) (by kernel_rfl) HHW.out (fun _ _ => by kernel_rfl) ?_
        refine wpAnyH_done (by kernel_rfl) ?_ _
        go_simp
        go_wp2
        go_ret
        exact ⟨rfl, HHW.out.2⟩
      · have d1 : decide ((m : Int) > 60) = true := decide_eq_true (by omega)
        go_enter Try.func3, Try.ntmps3
        go_wp2_with (first
          | (go_at_call 8; refine (dfixed_any _).mono ?_; rintro e w4 ⟨rfl, hb4⟩; have HB4 := Lib.hid (HB3.out.trans (hb4.mono HB3.out.size)); clear hb4)
          | (go_at_call 7; refine (HG.out _ HB2.out).mono ?_; rintro e w3 ⟨he, hb3⟩; obtain rfl := he.no (fun h => h SM.out); have HB3 := Lib.hid (HB2.out.trans (hb3.mono HB2.out.size)); have HN3 := Lib.hid ((hb3.block w.heap.size (lt_of_heap HN2.out)).trans HN2.out); have q0 := at_cell (i := 0) HN3.out rfl; have q1 := at_cell (i := 1) HN3.out rfl; have q2 := at_cell (i := 2) HN3.out rfl; have q3 := at_cell (i := 3) HN3.out rfl; clear hb3)
          | (go_at_call 6; refine (HNG.out _ HB0.out).mono ?_; rintro e w2 ⟨he, hb2⟩; obtain rfl := he.no (fun h => h SN.out); have HB2 := Lib.hid (HB0.out.trans (hb2.mono HB0.out.size)); have HN2 := Lib.hid ((hb2.block w.heap.size HS0.out).trans H0.out); have q0 := at_cell (i := 0) HN2.out rfl; have q1 := at_cell (i := 1) HN2.out rfl; have q2 := at_cell (i := 2) HN2.out rfl; have q3 := at_cell (i := 3) HN2.out rfl; clear hb2))
        go_ret
        exact ⟨rfl, HB4.out⟩
    · have SN := Lib.hid sn
      have SM := Lib.hid sm
      obtain ⟨⟨nm, sc, ru, ds⟩, xA, xn, xc⟩ := x
      unfold Nw.val at *
      simp only at *
      have H0 := Lib.hid (one_new w (.cells #[.string (tx nm), .bool sc, .int .u64 ru, .slice xA xn xc] 25))
      have HB0 := Lib.hid ((Below.refl w.heap.size w).alloc (Nat.le_refl _) (.cells #[.string (tx nm), .bool sc, .int .u64 ru, .slice xA xn xc] 25))
      have HS0 : Hid (w.heap.size < (w.alloc (.cells #[.string (tx nm), .bool sc, .int .u64 ru, .slice xA xn xc] 25)).heap.size) := by show w.heap.size < _; simp
      have q0 := at_cell (i := 0) H0.out rfl
      have q1 := at_cell (i := 1) H0.out rfl
      have q2 := at_cell (i := 2) H0.out rfl
      have q3 := at_cell (i := 3) H0.out rfl
      clear hr hh hf hfit hx sn sm hxn hcm hac
      go_enter Try.func3, Try.ntmps3
      go_wp2_with (first
        | (go_at_call 8; refine (dfixed_any _).mono ?_; rintro e w4 ⟨rfl, hb4⟩; have HB4 := Lib.hid (HB3.out.trans (hb4.mono HB3.out.size)); clear hb4)
        | (go_at_call 7; refine (HG.out _ HB2.out).mono ?_; rintro e w3 ⟨he, hb3⟩; obtain rfl := he.yes SM.out; have HB3 := Lib.hid (HB2.out.trans (hb3.mono HB2.out.size)); have HN3 := Lib.hid ((hb3.block w.heap.size (lt_of_heap HN2.out)).trans HN2.out); have q0 := at_cell (i := 0) HN3.out rfl; have q1 := at_cell (i := 1) HN3.out rfl; have q2 := at_cell (i := 2) HN3.out rfl; have q3 := at_cell (i := 3) HN3.out rfl; clear hb3)
        | (go_at_call 6; refine (HNG.out _ HB0.out).mono ?_; rintro e w2 ⟨he, hb2⟩; obtain rfl := he.no (fun h => h SN.out); have HB2 := Lib.hid (HB0.out.trans (hb2.mono HB0.out.size)); have HN2 := Lib.hid ((hb2.block w.heap.size HS0.out).trans H0.out); have q0 := at_cell (i := 0) HN2.out rfl; have q1 := at_cell (i := 1) HN2.out rfl; have q2 := at_cell (i := 2) HN2.out rfl; have q3 := at_cell (i := 3) HN2.out rfl; clear hb2))
      go_ret
      exact ⟨rfl, HB4.out⟩
  · have SN := Lib.hid sn
    obtain ⟨⟨nm, sc, ru, ds⟩, xA, xn, xc⟩ := x
    unfold Nw.val at *
    simp only at *
    have H0 := Lib.hid (one_new w (.cells #[.string (tx nm), .bool sc, .int .u64 ru, .slice xA xn xc] 25))
    have HB0 := Lib.hid ((Below.refl w.heap.size w).alloc (Nat.le_refl _) (.cells #[.string (tx nm), .bool sc, .int .u64 ru, .slice xA xn xc] 25))
    have HS0 : Hid (w.heap.size < (w.alloc (.cells #[.string (tx nm), .bool sc, .int .u64 ru, .slice xA xn xc] 25)).heap.size) := by show w.heap.size < _; simp
    have q0 := at_cell (i := 0) H0.out rfl
    have q1 := at_cell (i := 1) H0.out rfl
    have q2 := at_cell (i := 2) H0.out rfl
    have q3 := at_cell (i := 3) H0.out rfl
    clear hr hh hf hfit hx sn hxn hcm hac
    go_enter Try.func3, Try.ntmps3
    go_wp2_with (first
      | (go_at_call 8; refine (dfixed_any _).mono ?_; rintro e w4 ⟨rfl, hb4⟩; have HB4 := Lib.hid (HB2.out.trans (hb4.mono HB2.out.size)); clear hb4)
      | (go_at_call 6; refine (HNG.out _ HB0.out).mono ?_; rintro e w2 ⟨he, hb2⟩; obtain rfl := he.yes SN.out; have HB2 := Lib.hid (HB0.out.trans (hb2.mono HB0.out.size)); have HN2 := Lib.hid ((hb2.block w.heap.size HS0.out).trans H0.out); have q0 := at_cell (i := 0) HN2.out rfl; have q1 := at_cell (i := 1) HN2.out rfl; have q2 := at_cell (i := 2) HN2.out rfl; have q3 := at_cell (i := 3) HN2.out rfl; clear hb2))
    go_ret
    exact ⟨rfl, HB4.out⟩

end Go.Proofs.Ytbaokcigfgfoaaa
