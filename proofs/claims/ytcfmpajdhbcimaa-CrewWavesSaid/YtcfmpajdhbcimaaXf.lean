/- graph.alone. -/
import Derived.Test.YtcfmpajdhbcimaaXe
import Derived.Test.YtcfmpajdhbcimaaRb0
namespace Go.Proofs.Ytcfmpajdhbcimaa
open Go.RowKit

theorem isName_iff (t : List UInt8) : isName t = true ↔ t ≠ [] ∧ t.length ≤ 64 := by
  unfold isName
  rw [decide_eq_true_iff]
  constructor
  · rintro ⟨h1, h2⟩
    exact ⟨fun e => by rw [e] at h1; simp at h1, h2⟩
  · rintro ⟨h1, h2⟩
    exact ⟨(by cases t with | nil => exact absurd rfl h1 | cons a t => simp), h2⟩

set_option maxRecDepth 100000 in
set_option maxHeartbeats 2000000 in
theorem alone_any (x : Nw) (hf : NFits x.d) (hn : x.n ≤ 1000000) (w : World) (hx : NIn w w.heap.size x) :
    Calls Try.prog 23 #[x.val] w fun e w' => e = .returned (.int .i64 (aloneE x.d)) ∧ Below w.heap.size w w' := by
  have HL : Hid (x.d.deps.length = x.n) := hx.len
  have HUN := Lib.hid (fun (W : World) (hb : Below w.heap.size w W) => unlike_any x.d.name x.A x.n x.c x.d.deps hn hf.1 hf.2 W (Reads.more (Reads.below (show Reads w w.heap.size 1 x.A x.n (x.d.deps.map tsv) from hx) hb) hb.size))
  have HNA := Lib.hid (fun W => name_any x.d.name W)
  obtain ⟨⟨nm, sc, ru, ds⟩, xA, n, xc⟩ := x
  unfold Nw.val
  unfold tsv at HUN
  unfold rsv at HNA
  simp only at *
  have H0 := Lib.hid (one_new w (.cells #[.string (tx nm), .bool sc, .int .u64 ru, .slice xA n xc] 36))
  have HB0 := Lib.hid ((Below.refl w.heap.size w).alloc (Nat.le_refl _) (.cells #[.string (tx nm), .bool sc, .int .u64 ru, .slice xA n xc] 36))
  have HS0 : Hid (w.heap.size < (w.alloc (.cells #[.string (tx nm), .bool sc, .int .u64 ru, .slice xA n xc] 36)).heap.size) := by show w.heap.size < _; simp
  have q0 := at_cell (i := 0) H0.out rfl
  have q1 := at_cell (i := 1) H0.out rfl
  have q2 := at_cell (i := 2) H0.out rfl
  have q3 := at_cell (i := 3) H0.out rfl
  clear hx hf
  cases hq : isName nm with
  | false =>
    have HE : Hid (aloneE ⟨nm, sc, ru, ds⟩ = 1) := by
      show aloneE _ = 1
      unfold aloneE
      rw [if_pos (fun h => by rw [(isName_iff nm).2 h] at hq; cases hq)]
    rw [hq] at HNA
    clear hq
    go_enter Try.func23, Try.ntmps23
    go_wp2_with (first
      | (go_at_call 38; refine (HNA.out _).mono ?_; rintro e w2 ⟨rfl, rfl⟩))
    go_ret
    exact ⟨by rw [HE.out]; rfl, HB0.out⟩
  | true =>
    have hq2 := (isName_iff nm).1 hq
    rw [hq] at HNA
    clear hq
    cases sc with
    | false =>
      have HEQ : Hid (aloneE ⟨nm, false, ru, ds⟩ = if ¬ (nm :: ds).Nodup then 1 else if 16 < ds.length then 5 else 0) := by
        show aloneE _ = _
        unfold aloneE
        rw [if_neg (by simpa using hq2), if_neg (by simp)]
      clear hq2
      by_cases hu : (nm :: ds).Nodup
      · have HU := Lib.hid hu
        by_cases h16 : n ≤ 16
        · have d16 : decide ((n : Int) > 16) = false := decide_eq_false (by omega)
          have HE : Hid (aloneE ⟨nm, false, ru, ds⟩ = 0) := HEQ.out.trans (by rw [if_neg (by simpa using HU.out), if_neg (by rw [HL.out]; omega)])
          clear hu
          go_enter Try.func23, Try.ntmps23
          go_wp2_with (first
            | (go_at_call 39; refine (HUN.out _ HB0.out).mono ?_; rintro e w3 ⟨he, hb3⟩; obtain rfl := he.yes HU.out; have HB3 := Lib.hid (HB0.out.trans (hb3.mono HB0.out.size)); have q3 := at_cell (i := 3) ((hb3.block w.heap.size HS0.out).trans H0.out) rfl; clear hb3)
            | (go_at_call 38; refine (HNA.out _).mono ?_; rintro e w2 ⟨rfl, rfl⟩))
          go_ret
          exact ⟨by rw [HE.out]; rfl, HB3.out⟩
        · have d16 : decide ((n : Int) > 16) = true := decide_eq_true (by omega)
          have HE : Hid (aloneE ⟨nm, false, ru, ds⟩ = 5) := HEQ.out.trans (by rw [if_neg (by simpa using HU.out), if_pos (by rw [HL.out]; omega)])
          clear hu
          go_enter Try.func23, Try.ntmps23
          go_wp2_with (first
            | (go_at_call 39; refine (HUN.out _ HB0.out).mono ?_; rintro e w3 ⟨he, hb3⟩; obtain rfl := he.yes HU.out; have HB3 := Lib.hid (HB0.out.trans (hb3.mono HB0.out.size)); have q3 := at_cell (i := 3) ((hb3.block w.heap.size HS0.out).trans H0.out) rfl; clear hb3)
            | (go_at_call 38; refine (HNA.out _).mono ?_; rintro e w2 ⟨rfl, rfl⟩))
          go_ret
          exact ⟨by rw [HE.out]; rfl, HB3.out⟩
      · have HU := Lib.hid hu
        have HE : Hid (aloneE ⟨nm, false, ru, ds⟩ = 1) := HEQ.out.trans (by rw [if_pos HU.out])
        clear hu
        go_enter Try.func23, Try.ntmps23
        go_wp2_with (first
          | (go_at_call 39; refine (HUN.out _ HB0.out).mono ?_; rintro e w3 ⟨he, hb3⟩; obtain rfl := he.no HU.out; have HB3 := Lib.hid (HB0.out.trans (hb3.mono HB0.out.size)); have q3 := at_cell (i := 3) ((hb3.block w.heap.size HS0.out).trans H0.out) rfl; clear hb3)
          | (go_at_call 38; refine (HNA.out _).mono ?_; rintro e w2 ⟨rfl, rfl⟩))
        go_ret
        exact ⟨by rw [HE.out]; rfl, HB3.out⟩
    | true =>
      by_cases hn0 : n = 0
      · have hds : ds = [] := List.length_eq_zero_iff.1 (by rw [HL.out]; exact hn0)
        subst hn0
        by_cases hr : ru = 0
        · subst hr
          have HEQ : Hid (aloneE ⟨nm, true, 0, ds⟩ = if ¬ (nm :: ds).Nodup then 1 else if 16 < ds.length then 5 else 0) := by
            show aloneE _ = _
            unfold aloneE
            rw [if_neg (by simpa using hq2), if_neg (by rw [hds]; simp)]
          have HU : Hid ((nm :: ds).Nodup) := by show List.Nodup _; rw [hds]; simp
          have HE : Hid (aloneE ⟨nm, true, 0, ds⟩ = 0) := HEQ.out.trans (by rw [if_neg (by simpa using HU.out), if_neg (by rw [hds]; simp)])
          clear hq2 hds
          go_enter Try.func23, Try.ntmps23
          go_wp2_with (first
            | (go_at_call 39; refine (HUN.out _ HB0.out).mono ?_; rintro e w3 ⟨he, hb3⟩; obtain rfl := he.yes HU.out; have HB3 := Lib.hid (HB0.out.trans (hb3.mono HB0.out.size)); have q3 := at_cell (i := 3) ((hb3.block w.heap.size HS0.out).trans H0.out) rfl; clear hb3)
            | (go_at_call 38; refine (HNA.out _).mono ?_; rintro e w2 ⟨rfl, rfl⟩))
          go_ret
          exact ⟨by rw [HE.out]; rfl, HB3.out⟩
        · have hr2 : (ru != 0) = true := by rw [bne_iff_ne]; exact hr
          have HE : Hid (aloneE ⟨nm, true, ru, ds⟩ = 1) := by
            show aloneE _ = _
            unfold aloneE
            rw [if_neg (by simpa using hq2), if_pos ⟨rfl, .inr hr⟩]
          clear hq2 hds hr
          go_enter Try.func23, Try.ntmps23
          go_wp2_with (first
            | (go_at_call 38; refine (HNA.out _).mono ?_; rintro e w2 ⟨rfl, rfl⟩))
          go_ret
          exact ⟨by rw [HE.out]; rfl, HB0.out⟩
      · have hds : ds ≠ [] := fun e => hn0 (by rw [← HL.out, e]; rfl)
        have dn : decide ((n : Int) > 0) = true := decide_eq_true (by omega)
        have HE : Hid (aloneE ⟨nm, true, ru, ds⟩ = 1) := by
          show aloneE _ = _
          unfold aloneE
          rw [if_neg (by simpa using hq2), if_pos ⟨rfl, .inl hds⟩]
        clear hq2 hds
        go_enter Try.func23, Try.ntmps23
        go_wp2_with (first
          | (go_at_call 38; refine (HNA.out _).mono ?_; rintro e w2 ⟨rfl, rfl⟩))
        go_ret
        exact ⟨by rw [HE.out]; rfl, HB0.out⟩

end Go.Proofs.Ytcfmpajdhbcimaa
