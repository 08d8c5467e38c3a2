/- The example of layer 25; CrewWaves. -/
import Derived.Test.YtcfmpajdhbcimaaQf0
import Derived.Test.YtcfmpajdhbcimaaQe
import Derived.Test.YtcfmpajdhbcimaaQd
import Derived.Test.YtcfmpajdhbcimaaXn0
import Derived.Test.YtcfmpajdhbcimaaXm
import Derived.Test.YtcfmpajdhbcimaaXd0
import Derived.Test.YtcfmpajdhbcimaaRx
import Derived.Test.YtcfmpajdhbcimaaH
namespace Go.Proofs.Ytcfmpajdhbcimaa
open Go.RowKit Go.Maps Go.Sort

theorem ex_lev0 (b : Nat) : lev (nds (exn b)) [97] = 0 := by
  obtain ⟨x, hx, hn, hl⟩ := lev_name (ex_chk b) (u := [97]) (by simp [nds, exn])
  rw [hl]
  simp only [nds, exn, List.map_cons, List.map_nil, List.mem_cons, List.not_mem_nil, or_false] at hx
  rcases hx with rfl | rfl
  · simp at hn
  · rfl
theorem ex_lev1 (b : Nat) : lev (nds (exn b)) [98] = 1 := by
  obtain ⟨x, hx, hn, hl⟩ := lev_name (ex_chk b) (u := [98]) (by simp [nds, exn])
  have h0 := ex_lev0 b
  rw [hl]
  simp only [nds, exn, List.map_cons, List.map_nil, List.mem_cons, List.not_mem_nil, or_false] at hx
  rcases hx with rfl | rfl
  · show max 0 (lev (nds (exn b)) [97] + 1) = 1
    rw [h0]
    rfl
  · simp at hn
theorem ex_names (b : Nat) (u : List UInt8) : u ∈ (nds (exn b)).map Nd.name ↔ u = [98] ∨ u = [97] := by simp [nds, exn]
theorem ex_wvN (b : Nat) : wvN (nds (exn b)) (nds (exn b)).length = 2 := by
  have hall : (nmO (nds (exn b))).take (nds (exn b)).length = nmO (nds (exn b)) := List.take_of_length_le (by rw [nmO_len (ex_chk b)]; exact Nat.le_refl _)
  refine Nat.le_antisymm ?_ ?_
  · unfold wvN
    rw [hall]
    refine levOf_bound fun d hd => ?_
    rcases (ex_names b d).1 (nmO_names hd) with rfl | rfl
    · rw [ex_lev1]; exact Nat.le_refl _
    · rw [ex_lev0]; omega
  · have h := lev_lt (l := nds (exn b)) (i := (nds (exn b)).length) (s := [98]) (by rw [hall]; exact nmO_all (ex_chk b) ((ex_names b _).2 (.inl rfl)))
    rw [ex_lev1] at h
    exact h
theorem ex_wave (b k : Nat) (u : List UInt8) (hu : u = [98] ∨ u = [97]) (hl : lev (nds (exn b)) u = k) : srt (wv (nds (exn b)) (nds (exn b)).length k) = [u] := by
  refine isWave_one (isWave_all (ex_chk b) k) ⟨by simp, fun v => ?_⟩
  rw [List.mem_singleton, ex_names]
  constructor
  · rintro rfl
    exact ⟨hu, hl⟩
  · rintro ⟨h1, h2⟩
    have h3 := ex_lev0 b
    have h4 := ex_lev1 b
    rcases h1 with rfl | rfl <;> rcases hu with rfl | rfl
    · rfl
    · omega
    · omega
    · rfl
theorem ex_waves (b : Nat) : wavesOf (nds (exn b)) = [[[97]], [[98]]] := by
  refine List.ext_getElem? fun k => ?_
  rcases Nat.lt_or_ge k 2 with h | h
  · rw [waves_get (by rw [ex_wvN]; exact h)]
    have : k = 0 ∨ k = 1 := by omega
    rcases this with rfl | rfl
    · rw [ex_wave b 0 [97] (.inr rfl) (ex_lev0 b)]
      rfl
    · rw [ex_wave b 1 [98] (.inl rfl) (ex_lev1 b)]
      rfl
  · rw [List.getElem?_eq_none (by rw [waves_len, ex_wvN]; exact h), List.getElem?_eq_none (by simpa using h)]

set_option maxRecDepth 100000 in
set_option maxHeartbeats 2000000 in
theorem cfixed_any (w : World) : Calls Try.prog 5 #[] w fun e w' => e = .returned (.bool true) ∧ Below w.heap.size w w' := by
  have HB2 := Lib.hid (((Below.refl w.heap.size w).alloc (Nat.le_refl _) (.cells #[.string { data := #[97] }] 9)).alloc (by simp) (.cells #[.string { data := #[98] }, .bool false, .int .u64 0, .slice (some ⟨w.heap.size, 0, none⟩) 1 1, .string { data := #[97] }, .bool true, .int .u64 0, .slice none 0 0] 36))
  have HOR : Hid (Calls Try.prog 6 #[.slice (some ⟨w.heap.size + 1, 0, none⟩) 2 2] ((w.alloc (.cells #[.string { data := #[97] }] 9)).alloc (.cells #[.string { data := #[98] }, .bool false, .int .u64 0, .slice (some ⟨w.heap.size, 0, none⟩) 1 1, .string { data := #[97] }, .bool true, .int .u64 0, .slice none 0 0] 36)) fun e w' => ∃ A5 c5, e = .returned (.tuple #[.slice A5 2 c5, .int .i64 0]) ∧ WIn w' w'.heap.size A5 2 [[[97]], [[98]]] ∧ Below w.heap.size w w') :=
    Calls.mono (cwaves_ok _ 2 2 (exn w.heap.size) (by omega) (ex_ok _) (fun x hx => by simp only [exn, List.mem_cons, List.not_mem_nil, or_false] at hx; rcases hx with rfl | rfl <;> simp) (ex_chk _) _ (ex_nodes w)) (fun e w' ⟨⟨v, vs, he, hrr⟩, hb⟩ => by
      rw [ex_waves] at hrr
      obtain ⟨A, c, rfl, hw⟩ := rr_reads hrr
      exact ⟨A, c, he, hw, HB2.out.trans (hb.mono HB2.out.size)⟩)
  go_enter Try.func5, Try.ntmps5
  go_wp2_with fail
  refine HOR.out.mono ?_
  rintro e w5 ⟨A5, c5, rfl, hw5, hb5⟩
  obtain ⟨ad, A50, c50, rfl, _, hc0, hr0⟩ := hw5.at_ (k := 0) (r := [[97]]) rfl
  have HW5 := Lib.hid hw5
  have HB5 := Lib.hid hb5
  have HR50 := Lib.hid hr0
  have hal : Below w5.heap.size w5 (w5.alloc (.cells #[.string { data := #[97] }] 9)) := (Below.refl _ w5).alloc (Nat.le_refl _) _
  have HAL := Lib.hid hal
  have HS0 := Lib.hid (texts_same A50 (some ⟨w5.heap.size, 0, none⟩) 1 c50 1 w5.heap.size (w5.heap.size + 1) [[97]] (by omega) _ (by simp) (by simp) (HR50.out.below HAL.out) (reads_one_row w5 9 (.string { data := #[97] })))
  clear hw5 hb5 hr0 hal
  have hc0' : w5.cell? ad = some (.slice A50 1 c50) := by
    have e : ad.add 0 = ad := by simp [Addr.add]
    rw [← e]
    exact hc0
  go_wp2_with (first
    | (go_at_call 8; refine HS1.out.mono ?_; rintro e w9 ⟨rfl, hb9⟩; have HB9 := Lib.hid (HB8.out.trans (hb9.mono HB8.out.size)); clear hb9)
    | (go_at_call 8; refine HS0.out.mono ?_; rintro e w7 ⟨rfl, hb7⟩; have HB57 := Lib.hid (HAL.out.trans (hb7.mono HAL.out.size)); have HB7 := Lib.hid (HB5.out.trans (HB57.out.mono HB5.out.size)); obtain ⟨ad', A51, c51, e', _, hc1, hr1⟩ := (HW5.out.below HB57.out).at_ (k := 1) (r := [[98]]) rfl; obtain rfl : ad = ad' := Option.some.inj e'; have hc1b : w7.cell? ⟨ad.block, ad.off + 1, none⟩ = some (.slice A51 1 c51) := (by have h := hc1; simpa [Addr.add] using h); have HAL8 := Lib.hid ((Below.refl w7.heap.size w7).alloc (Nat.le_refl _) (.cells #[.string { data := #[98] }] 9)); have HB8 := Lib.hid (HB7.out.trans (HAL8.out.mono HB7.out.size)); have HS1 := Lib.hid (texts_same A51 (some ⟨w7.heap.size, 0, none⟩) 1 c51 1 w5.heap.size (w7.heap.size + 1) [[98]] (by omega) _ (by have := HB57.out.size; simp; omega) (by simp) (hr1.below (HAL8.out.mono HB57.out.size)) (reads_one_row w7 9 (.string { data := #[98] }))); clear hb7 e' hr1))
  go_ret
  exact ⟨rfl, HB9.out⟩

/-- A name's place and one more, as the law keeps it. -/
def lvG (l : List Nd) (u : List UInt8) : Value := .int .i64 (((lev l u : Nat) : Int) + 1)

set_option maxRecDepth 100000 in
set_option maxHeartbeats 8000000 in
theorem waves_law (A : Option Addr) (n c : Nat) (xs : List Nw) (hnc : n ≤ c) (hcm : c ≤ maxLen) (w : World) (hg : ∀ x ∈ xs, NGood w x) (h : Nodes w w.heap.size A n xs) :
    Calls Try.prog 3 #[.slice A n c] w fun e w' => e = .returned (.bool true) ∧ Below w.heap.size w w' := by
  have HL : Hid (xs.length = n) := h.len
  have HLD : Hid ((nds xs).length = n) := by show _ = _; rw [nds_len]; exact h.len
  have HG := Lib.hid (ggreat_any A n c xs (by omega) (fun x hx => ⟨(hg x hx).1, by have := (hg x hx).2.1; have := (hg x hx).2.2.1; omega⟩) w h)
  by_cases gs : GSm (nds xs)
  · have GS := Lib.hid gs
    have hn80 : n ≤ 80 := by rw [← HLD.out]; exact gs.2
    have HN80 : Hid (n ≤ 80) := hn80
    have HNS := Lib.hid h
    have hxn : ∀ x ∈ xs, x.n ≤ 1000 := fun x hx => by
      have h1 := (gs.1 x.d (List.mem_map.2 ⟨x, hx, rfl⟩)).1
      rw [(h.2 x hx).len] at h1
      omega
    have hok2 : NOk xs := fun x hx => ⟨(hg x hx).1, by have := hxn x hx; omega⟩
    have hxc : ∀ x ∈ xs, x.n ≤ x.c := fun x hx => (hg x hx).2.1
    have HF := Lib.hid hok2
    have HXN := Lib.hid hxn
    have hmm := @run_makeMap Try.prog
    by_cases hc0 : chk (nds xs) = 0
    · have HC0 := Lib.hid hc0
      obtain ⟨N, hN⟩ : ∃ N, N = (wavesOf (nds xs)).length := ⟨_, rfl⟩
      have HWL := Lib.hid hN
      have HCW : Hid (∀ (W : World) (hb : Below w.heap.size w W), Calls Try.prog 6 #[.slice A n c] W fun e w' => (∃ A4 c4, e = .returned (.tuple #[.slice A4 N c4, .int .i64 0]) ∧ WIn w' w'.heap.size A4 N (wavesOf (nds xs))) ∧ Below W.heap.size W w') := fun W hb =>
        Calls.mono (cwaves_ok A n c xs (by omega) hok2 hxn hc0 W ((h.below hb).more hb.size)) (fun e w' ⟨⟨v, vs, he, hrr⟩, hb2⟩ => by
          obtain ⟨A4, c4, rfl, hw⟩ := rr_reads hrr
          rw [← hN] at he hw
          exact ⟨⟨A4, c4, he, hw⟩, hb2⟩)
      have HRW : Hid (∀ (W : World) (hb : Below w.heap.size w W), Calls Try.prog 7 #[.slice A n c] W fun e w' => (∃ A4 c4, e = .returned (.tuple #[.slice A4 N c4, .int .i64 0]) ∧ WIn w' w'.heap.size A4 N (wavesOf (nds xs))) ∧ Below W.heap.size W w') := fun W hb =>
        Calls.mono (rwaves_ok A n c xs (by omega) hnc hok2 hxc hxn hc0 W ((h.below hb).more hb.size)) (fun e w' ⟨⟨v, vs, he, hrr⟩, hb2⟩ => by
          obtain ⟨A4, c4, rfl, hw⟩ := rr_reads hrr
          rw [← hN] at he hw
          exact ⟨⟨A4, c4, he, hw⟩, hb2⟩)
      have hN80 : N ≤ 80 := by
        rw [hN, waves_len]
        have := wvN_le (nds xs) hc0 (nds xs).length (Nat.le_refl _)
        rw [HLD.out] at this ⊢
        omega
      have HNW : Hid (N = wvN (nds xs) (nds xs).length) := by show _ = _; rw [hN, waves_len]
      have HFL : Hid ((wavesOf (nds xs)).flatten.length = n) := by show _ = _; rw [fl_len hc0, HLD.out]
      have HFA : Hid (flW (nds xs) N = (wavesOf (nds xs)).flatten) := by show _ = _; rw [HNW.out]; exact flW_all _
      have HFN := Lib.hid (fun (i k : Nat) (r : List (List UInt8)) (s : List UInt8) (hr : (wavesOf (nds xs))[i]? = some r) (hs : r[k]? = some s) => fl_new hc0 hr hs)
      have HFB : Hid (∀ (i k : Nat) (r : List (List UInt8)), (wavesOf (nds xs))[i]? = some r → (flW (nds xs) i ++ r.take k).length ≤ n) := fun i k r hr => by rw [← HLD.out]; exact fl_bound hc0 i k hr
      have HWV := Lib.hid (fun (k : Nat) (r : List (List UInt8)) (hr : (wavesOf (nds xs))[k]? = some r) => waves_lev hc0 hr)
      have HEDG := Lib.hid (fun (d a : List UInt8) (he : (d, a) ∈ edges (nds xs)) => lev_edge hc0 he)
      have HMEM : Hid (∀ u, u ∈ (wavesOf (nds xs)).flatten ↔ u ∈ (nds xs).map Nd.name) := fun u => fl_mem hc0
      have HDI : Hid (∀ x ∈ nds xs, ∀ d ∈ x.deps, d ∈ (nds xs).map Nd.name) := (chk_ok.1 hc0).2.2.2.1
      have HNML : Hid (∀ u ∈ (nds xs).map Nd.name, u.length ≤ maxLen) := fun u hu => by
        obtain ⟨y, hy, rfl⟩ := List.mem_map.1 hu
        obtain ⟨z, hz, rfl⟩ := List.mem_map.1 hy
        exact (hok2 z hz).1.1
      have HLB : Hid (∀ u ∈ (nds xs).map Nd.name, lev (nds xs) u ≤ 80) := fun u hu => by
        have h1 := lev_lt (l := nds xs) (i := (nds xs).length) (s := u) (by rw [List.take_of_length_le (by rw [nmO_len hc0]; exact Nat.le_refl _)]; exact nmO_all hc0 hu)
        rw [← HNW.out] at h1
        omega
      clear hok2 hxn hxc hg h gs hc0 hN
      go_enter Try.func3, Try.ntmps3
      go_wp2_with (first
        | (go_at_call 7; refine (HRW.out _ HB4.out).mono ?_; rintro e w5 ⟨⟨A5, c5, rfl, hw5⟩, hb5⟩; have HW5 := Lib.hid hw5; have HW4 := Lib.hid ((HW4.out.below hb5).more hb5.size); have HB5 := Lib.hid (HB4.out.trans (hb5.mono HB4.out.size)); clear hw5 hb5)
        | (go_at_call 6; refine (HCW.out _ HB2.out).mono ?_; rintro e w4 ⟨⟨A4, c4, rfl, hw4⟩, hb4⟩; have HW4 := Lib.hid hw4; have HB4 := Lib.hid (HB2.out.trans (hb4.mono HB2.out.size)); clear hw4 hb4)
        | (go_at_call 4; refine HG.out.mono ?_; rintro e w2 ⟨he, hb2⟩; obtain rfl := he.no (fun h => h GS.out); have HB2 := Lib.hid hb2; clear hb2))
      have HK0 := Lib.hid (kmap_start w5 (lvG (nds xs)))
      have HA5 := Lib.hid ((Below.refl w5.heap.size w5).alloc (Nat.le_refl _) (.map #[] 0))
      go_loopw [41] (fun v41 wr => ∃ i : Nat, i ≤ N ∧ v41 = .int .i64 (i : Int) ∧ KMap wr w5.heap.size (lvG (nds xs)) (flW (nds xs) i) ∧ Below w5.heap.size w5 wr) (fun v41 _ => N - (intOf v41).toNat)
      case atStart => exact ⟨0, by omega, rfl, by simpa [flW] using HK0.out, HA5.out⟩
      case round =>
        obtain ⟨i, hi, rfl, hkm, hb⟩ := hrel
        obtain ⟨w7, hw7⟩ : ∃ x, x = wr := ⟨_, rfl⟩
        subst hw7
        by_cases hlt : i < N
        · obtain ⟨r, hr⟩ : ∃ r, (wavesOf (nds xs))[i]? = some r := ⟨_, List.getElem?_eq_getElem (by rw [← HWL.out]; exact hlt)⟩
          obtain ⟨ad4, A41, c41, rfl, hb4, hc4, hr4⟩ := HW4.out.at_ hr
          obtain ⟨ad5, A51, c51, rfl, hb5, hc5, hr5⟩ := HW5.out.at_ hr
          obtain ⟨q, hq⟩ : ∃ q, q = r.length := ⟨_, rfl⟩
          rw [← hq] at hc4 hr4 hc5 hr5
          have hqn : q ≤ n := by
            have h1 := HFB.out i r.length r hr
            rw [List.take_length, List.length_append, ← hq] at h1
            omega
          have HC4 : Hid (∀ v, Below w5.heap.size w5 v → v.cell? (ad4.add i) = some (.slice A41 q c41)) := fun v hv => cell_below hb4 hv hc4
          have HC5 : Hid (∀ v, Below w5.heap.size w5 v → v.cell? (ad5.add i) = some (.slice A51 q c51)) := fun v hv => cell_below hb5 hv hc5
          have HR41 := Lib.hid hr4
          have HR51 := Lib.hid hr5
          have HKM := Lib.hid hkm
          have HB7 := Lib.hid hb
          have HQ := Lib.hid hq
          have HRI := Lib.hid hr
          have HI : Hid (i < N) := hlt
          have hi0 : (0 : Int) ≤ (i : Int) := by omega
          have hi1 : (i : Int) < (N : Int) := by omega
          clear hkm hr hc4 hr4 hc5 hr5 hb4 hb5 hlt hq
          go_wp2
          refine wp_region_held (S := fun v => Below w5.heap.size w5 v) (by kernel_rfl) (show wpAnyH _ _ _ _ _ _ _ _ (w7.drew) from ?_)
          have HD := Lib.hid (show Below w5.heap.size w5 w7.drew from hb.drew)
          have HWQ0 : Hid ((w7.drew).heap[w5.heap.size]? = w7.heap[w5.heap.size]?) := rfl
          obtain ⟨w8, hw8⟩ : ∃ x, x = w7.drew := ⟨_, rfl⟩
          rw [← hw8] at HD HWQ0 ⊢
          have HWQ := HWQ0
          clear hw8 HWQ0
          refine h_take 0 (.slice (some ad4) N c4) rfl (by kernel_rfl) (by kernel_rfl) (by kernel_rfl) (fun _ _ _ h => h) (by kernel_rfl) HD.out (fun _ _ => by kernel_rfl) ?_
          refine h_take 1 (.int .i64 (i : Int)) rfl (by kernel_rfl) (by kernel_rfl) (by kernel_rfl) (fun _ _ _ h => h) (by kernel_rfl) HD.out (fun _ _ => by kernel_rfl) ?_
          refine h_take 2 (.pointer (some (ad4.add i))) rfl (by kernel_rfl) (by kernel_rfl) (by kernel_rfl) (fun _ _ _ h => h) (by kernel_rfl) HD.out (by intro v hv; go_simp) ?_
          refine h_take 3 (.slice A41 q c41) rfl (by kernel_rfl) (by kernel_rfl) (by kernel_rfl) (fun _ _ _ h => h) (by kernel_rfl) HD.out (by intro v hv; have z0 := HC4.out v hv; go_simp) ?_
          refine h_take 4 (.slice (some ad5) N c5) rfl (by kernel_rfl) (by kernel_rfl) (by kernel_rfl) (fun _ _ _ h => h) (by kernel_rfl) HD.out (fun _ _ => by kernel_rfl) ?_
          refine h_take 5 (.int .i64 (i : Int)) rfl (by kernel_rfl) (by kernel_rfl) (by kernel_rfl) (fun _ _ _ h => h) (by kernel_rfl) HD.out (fun _ _ => by kernel_rfl) ?_
          refine h_take 6 (.pointer (some (ad5.add i))) rfl (by kernel_rfl) (by kernel_rfl) (by kernel_rfl) (fun _ _ _ h => h) (by kernel_rfl) HD.out (by intro v hv; go_simp) ?_
          refine h_take 7 (.slice A51 q c51) rfl (by kernel_rfl) (by kernel_rfl) (by kernel_rfl) (fun _ _ _ h => h) (by kernel_rfl) HD.out (by intro v hv; have z0 := HC5.out v hv; go_simp) ?_
          refine h_one 8 rfl (by kernel_rfl) (by kernel_rfl) (fun K hK => ?_)
          go_simp
          refine (texts_same A41 A51 q c41 c51 w5.heap.size w5.heap.size r (by omega) w8 HD.out.size HD.out.size (HR41.out.below HD.out) (HR51.out.below HD.out)).mono ?_
          rintro e w9 ⟨rfl, hb9⟩
          have HD9 := Lib.hid (HD.out.trans (hb9.mono HD.out.size))
          have HK9 := Lib.hid ((HKM.out.at_heap (show w8.heap[w5.heap.size]? = w7.heap[w5.heap.size]? from HWQ.out)).below hb9)
          clear hb9
          refine hK _ _ HD9.out ?_
          clear hK K
          refine h_take 9 (.bool false) rfl (by kernel_rfl) (by kernel_rfl) (by kernel_rfl) (fun _ _ _ h => h) (by kernel_rfl) HD9.out (fun _ _ => by kernel_rfl) ?_
          refine wpAnyH_done (by kernel_rfl) ?_ _
          go_simp
          have hc9 := HC4.out w9 HD9.out
          have hi80 : i ≤ 80 := by have := HI.out; omega
          go_wp2
          go_loopw [59] (fun v59 wr => ∃ k : Nat, k ≤ q ∧ v59 = .int .i64 (k : Int) ∧ KMap wr w5.heap.size (lvG (nds xs)) (flW (nds xs) i ++ r.take k) ∧ Below w5.heap.size w5 wr) (fun v59 _ => q - (intOf v59).toNat)
          case atStart => exact ⟨0, by omega, rfl, by simpa using HK9.out, HD9.out⟩
          case round =>
            obtain ⟨k, hk, rfl, hkm, hb⟩ := hrel
            have HKM := Lib.hid hkm
            have HB := Lib.hid hb
            by_cases hlt : k < q
            · obtain ⟨s, hs⟩ : ∃ s, r[k]? = some s := ⟨_, List.getElem?_eq_getElem (by rw [← HQ.out]; exact hlt)⟩
              obtain ⟨ax, sv, rfl, hxb, hsv, hsc⟩ := (HR41.out.below hb).at_ hlt
              obtain rfl : sv = tsv s := by rw [List.getElem?_map, hs] at hsv; simpa using hsv.symm
              unfold tsv at hsc
              have hin := ((HWV.out i r HRI.out).2 s).1 (List.mem_of_getElem? hs)
              have HSN := Lib.hid (HFN.out i k r s HRI.out hs)
              have HGS : Hid (lvG (nds xs) s = .int .i64 ((i : Int) + 1)) := by show lvG _ _ = _; unfold lvG; rw [hin.2]
              have HSL := Lib.hid (HNML.out s hin.1)
              have HLN : Hid ((flW (nds xs) i ++ r.take k).length < maxLen) := by show _ < _; have := HFB.out i k r HRI.out; unfold maxLen; omega
              have HNX : Hid (flW (nds xs) i ++ r.take (k + 1) = (flW (nds xs) i ++ r.take k) ++ [s]) := by show _ = _; rw [List.take_add_one, hs, List.append_assoc]; rfl
              have HLT : Hid (k < q) := hlt
              have hk0 : (0 : Int) ≤ (k : Int) := by omega
              have hk1 : (k : Int) < (q : Int) := by omega
              clear hs hsv hin hkm hb hlt
              go_wp2_with (at_mapUpdate; refine wpList_kput _ rfl _ _ _ 31 rfl 3 Try.underlying31 w5.heap.size (lvG (nds xs)) _ rfl HKM.out HLN.out s rfl (by show Value.int .i64 ((i : Int) + 1) = _; exact HGS.out.symm) HSL.out HSN.out ?_; intro w10 hk10 hg10; have HK10 := Lib.hid hk10; have HB10 := Lib.hid (HB.out.grown hg10 HB.out.size (fun j hj => by cases hj; exact Nat.le_refl _)); clear hk10 hg10)
              rw [← HNX.out] at HK10
              exact ⟨⟨k + 1, HLT.out, by go_num, HK10.out, HB10.out⟩, by have := HLT.out; simp [intOf]; omega⟩
            · obtain rfl : k = q := by omega
              rw [List.take_of_length_le (by rw [← HQ.out]; exact Nat.le_refl _), flW_next HRI.out] at HKM
              clear hkm hb hlt
              go_wp2
              exact ⟨⟨i + 1, HI.out, by go_num, HKM.out, HB.out⟩, by have := HI.out; simp [intOf]; omega⟩
        · obtain rfl : i = N := by omega
          rw [HFA.out] at hkm
          have HKM := Lib.hid hkm
          have HBL := Lib.hid (HB5.out.trans (hb.mono HB5.out.size))
          clear hkm hb hlt hi HK0 HA5
          go_wp2
          go_loopw [71] (fun v71 wr => ∃ j : Nat, j ≤ n ∧ v71 = .int .i64 (j : Int) ∧ KMap wr w5.heap.size (lvG (nds xs)) (wavesOf (nds xs)).flatten ∧ Below w.heap.size w wr) (fun v71 _ => n - (intOf v71).toNat)
          case atStart => exact ⟨0, by omega, rfl, HKM.out, HBL.out⟩
          case round =>
            obtain ⟨j, hj, rfl, hkm, hb⟩ := hrel
            have HKL := Lib.hid hkm
            have HBL := Lib.hid hb
            by_cases hlt : j < n
            · obtain ⟨x, hx⟩ : ∃ x, xs[j]? = some x := ⟨_, List.getElem?_eq_getElem (by rw [HL.out]; exact hlt)⟩
              obtain ⟨ad, rfl, hab, k0, k1, k2, k3⟩ := nodes_cells (HNS.out.below hb).1 j x hx
              have hmx := List.mem_of_getElem? hx
              have hmd : x.d ∈ nds xs := List.mem_map.2 ⟨x, hmx, rfl⟩
              have HX := Lib.hid (show Reads w w.heap.size 1 x.A x.n (x.d.deps.map tsv) from HNS.out.2 x hmx)
              have HDL : Hid (x.d.deps.length = x.n) := (HNS.out.2 x hmx).len
              have hxn : x.n ≤ 1000 := HXN.out x hmx
              have HNI : Hid (x.d.name ∈ (nds xs).map Nd.name) := List.mem_map.2 ⟨x.d, hmd, rfl⟩
              have HDN : Hid (∀ d ∈ x.d.deps, d ∈ (nds xs).map Nd.name ∧ lev (nds xs) d < lev (nds xs) x.d.name) := fun d hd => ⟨HDI.out x.d hmd d hd, HEDG.out d x.d.name (mem_edges.2 ⟨x.d, hmd, rfl, hd⟩)⟩
              obtain ⟨⟨nm, sc, ru, ds⟩, xA, xn, xc⟩ := x
              simp only at k0 k1 k2 k3 HX HDL hxn HNI HDN
              have HNEW := Lib.hid (one_new wr (.cells #[.string (tx nm), .bool sc, .int .u64 ru, .slice xA xn xc] 36))
              have HAL : Hid (Below wr.heap.size wr (wr.alloc (.cells #[.string (tx nm), .bool sc, .int .u64 ru, .slice xA xn xc] 36))) := (Below.refl _ _).alloc (Nat.le_refl _) _
              have HKM8 := Lib.hid (HKL.out.below HAL.out)
              have HB8 := Lib.hid (HBL.out.trans (HAL.out.mono HBL.out.size))
              have p0 := at_cell (i := 0) HNEW.out rfl
              have p3 := at_cell (i := 3) HNEW.out rfl
              have HJ : Hid (j < n) := hlt
              have hj0 : (0 : Int) ≤ (j : Int) := by omega
              have hj1 : (j : Int) < (n : Int) := by omega
              clear hx hmx hmd hkm hb hlt hab
              go_wp2
              obtain ⟨nb, hnb⟩ : ∃ nb, nb = wr.heap.size := ⟨_, rfl⟩
              rw [← hnb] at p0 p3 ⊢
              generalize (wr.alloc (.cells #[.string (tx nm), .bool sc, .int .u64 ru, .slice xA xn xc] 36)) = w8 at HKM8 HB8 p0 p3 ⊢
              clear HNEW HAL hnb k0 k1 k2 k3
              go_loopw [78] (fun v78 w9 => ∃ k : Nat, k ≤ xn ∧ v78 = .int .i64 (k : Int) ∧ w8 = w9) (fun v78 _ => xn - (intOf v78).toNat)
              case atStart => exact ⟨0, by omega, rfl, rfl⟩
              case round =>
                obtain ⟨k, hk, rfl, rfl⟩ := hrel
                by_cases hlt : k < xn
                · obtain ⟨d, hd⟩ : ∃ d, ds[k]? = some d := ⟨_, List.getElem?_eq_getElem (by rw [HDL.out]; exact hlt)⟩
                  obtain ⟨ax, sv, rfl, hxb, hsv, hsc⟩ := (HX.out.below HB8.out).at_ hlt
                  obtain rfl : sv = tsv d := by rw [List.getElem?_map, hd] at hsv; simpa using hsv.symm
                  unfold tsv at hsc
                  obtain ⟨hdn, hlv⟩ := HDN.out d (List.mem_of_getElem? hd)
                  have hlk1 := HKM8.out.map.look (HNML.out nm HNI.out) Try.underlying31 (zeroI w8)
                  rw [keyF_get ((HMEM.out nm).2 HNI.out)] at hlk1
                  have hlk2 := HKM8.out.map.look (HNML.out d hdn) Try.underlying31 (zeroI w8)
                  rw [keyF_get ((HMEM.out d).2 hdn)] at hlk2
                  unfold lvG at hlk1 hlk2
                  obtain ⟨e, he⟩ : ∃ e, e = lev (nds xs) d := ⟨_, rfl⟩
                  obtain ⟨f, hf⟩ : ∃ f, f = lev (nds xs) nm := ⟨_, rfl⟩
                  rw [← he] at hlk2 hlv
                  rw [← hf] at hlk1 hlv
                  have h1 : (((f : Nat) : Int) + 1 == 0) = false := by rw [beq_eq_false_iff_ne]; omega
                  have h2 : (((e : Nat) : Int) + 1 == 0) = false := by rw [beq_eq_false_iff_ne]; omega
                  have h3 : ¬ (((e : Nat) : Int) + 1 ≥ ((f : Nat) : Int) + 1) := by omega
                  have HLT : Hid (k < xn) := hlt
                  have hk0 : (0 : Int) ≤ (k : Int) := by omega
                  have hk1 : (k : Int) < (xn : Int) := by omega
                  clear hd hsv hdn hlv he hf hlt
                  go_wp2
                  exact ⟨⟨k + 1, HLT.out, by go_num, by first | trivial | rfl⟩, by have := HLT.out; simp [intOf]; omega⟩
                · obtain rfl : k = xn := by omega
                  clear hlt
                  go_wp2
                  exact ⟨⟨j + 1, HJ.out, by go_num, HKM8.out, HB8.out⟩, by have := HJ.out; simp [intOf]; omega⟩
            · obtain rfl : j = n := by omega
              clear hkm hb hlt
              go_wp2_with (first
                | (go_at_call 5; refine (cfixed_any _).mono ?_; rintro e w9 ⟨rfl, hb9⟩; have HB9 := Lib.hid (HBL.out.trans (hb9.mono HBL.out.size)); have HKF := Lib.hid (HKL.out.below hb9); have hln := HKF.out.len Try.underlying31 3; rw [HFL.out] at hln; clear hb9))
              go_ret
              exact ⟨rfl, HB9.out⟩
    · obtain ⟨z, hz⟩ : ∃ z, z = chk (nds xs) := ⟨_, rfl⟩
      have HCW : Hid (∀ (W : World) (hb : Below w.heap.size w W), Calls Try.prog 6 #[.slice A n c] W fun e w' => e = .returned (.tuple #[.slice none 0 0, .int .i64 z]) ∧ Below W.heap.size W w') := fun W hb => by rw [hz]; exact cwaves_bad A n c xs (by omega) hok2 hc0 W ((h.below hb).more hb.size)
      have HRW : Hid (∀ (W : World) (hb : Below w.heap.size w W), Calls Try.prog 7 #[.slice A n c] W fun e w' => (∃ A' c', e = .returned (.tuple #[.slice A' 0 c', .int .i64 z])) ∧ Below W.heap.size W w') := fun W hb => by rw [hz]; exact rwaves_bad A n c xs (by omega) hnc hok2 hxc hc0 W ((h.below hb).more hb.size)
      rw [← hz] at hc0
      have hz0 : (z == 0) = false := by rw [beq_eq_false_iff_ne]; exact hc0
      have hy0 : (z != 0) = true := by rw [bne_iff_ne]; exact hc0
      have hzz : (z != z) = false := by simp
      have hze : (z == z) = true := by simp
      clear hok2 hxn hxc hg h gs hc0 hz
      go_enter Try.func3, Try.ntmps3
      go_wp2_with (first
        | (go_at_call 7; refine (HRW.out _ HB4.out).mono ?_; rintro e w5 ⟨⟨A5, c5, rfl⟩, hb5⟩; have HB5 := Lib.hid (HB4.out.trans (hb5.mono HB4.out.size)); clear hb5)
        | (go_at_call 6; refine (HCW.out _ HB2.out).mono ?_; rintro e w4 ⟨rfl, hb4⟩; have HB4 := Lib.hid (HB2.out.trans (hb4.mono HB2.out.size)); clear hb4)
        | (go_at_call 4; refine HG.out.mono ?_; rintro e w2 ⟨he, hb2⟩; obtain rfl := he.no (fun h => h GS.out); have HB2 := Lib.hid hb2; clear hb2))
      have HA5 := Lib.hid ((Below.refl w5.heap.size w5).alloc (Nat.le_refl _) (.map #[] 0))
      go_loopw [41] (fun v41 wr => v41 = .int .i64 0 ∧ Below w5.heap.size w5 wr) (fun _ _ => 0)
      case atStart => exact ⟨rfl, HA5.out⟩
      case round =>
        obtain ⟨rfl, hb⟩ := hrel
        have HBL := Lib.hid (HB5.out.trans (hb.mono HB5.out.size))
        clear hb HA5
        go_wp2
        go_loopw [71] (fun v71 wr => ∃ j : Nat, j ≤ n ∧ v71 = .int .i64 (j : Int) ∧ Below w.heap.size w wr) (fun v71 _ => n - (intOf v71).toNat)
        case atStart => exact ⟨0, by omega, rfl, HBL.out⟩
        case round =>
          obtain ⟨j, hj, rfl, hb⟩ := hrel
          have HBL := Lib.hid hb
          by_cases hlt : j < n
          · obtain ⟨x, hx⟩ : ∃ x, xs[j]? = some x := ⟨_, List.getElem?_eq_getElem (by rw [HL.out]; exact hlt)⟩
            obtain ⟨ad, rfl, hab, k0, k1, k2, k3⟩ := nodes_cells (HNS.out.below hb).1 j x hx
            have hmx := List.mem_of_getElem? hx
            have HX := Lib.hid (show Reads w w.heap.size 1 x.A x.n (x.d.deps.map tsv) from HNS.out.2 x hmx)
            have HDL : Hid (x.d.deps.length = x.n) := (HNS.out.2 x hmx).len
            have hxn : x.n ≤ 1000 := HXN.out x hmx
            obtain ⟨⟨nm, sc, ru, ds⟩, xA, xn, xc⟩ := x
            simp only at k0 k1 k2 k3 HX HDL hxn
            have HNEW := Lib.hid (one_new wr (.cells #[.string (tx nm), .bool sc, .int .u64 ru, .slice xA xn xc] 36))
            have HAL : Hid (Below wr.heap.size wr (wr.alloc (.cells #[.string (tx nm), .bool sc, .int .u64 ru, .slice xA xn xc] 36))) := (Below.refl _ _).alloc (Nat.le_refl _) _
            have HB8 := Lib.hid (HBL.out.trans (HAL.out.mono HBL.out.size))
            have p0 := at_cell (i := 0) HNEW.out rfl
            have p3 := at_cell (i := 3) HNEW.out rfl
            have HJ : Hid (j < n) := hlt
            have hj0 : (0 : Int) ≤ (j : Int) := by omega
            have hj1 : (j : Int) < (n : Int) := by omega
            clear hx hmx hb hlt hab
            go_wp2
            obtain ⟨nb, hnb⟩ : ∃ nb, nb = wr.heap.size := ⟨_, rfl⟩
            rw [← hnb] at p0 p3 ⊢
            generalize (wr.alloc (.cells #[.string (tx nm), .bool sc, .int .u64 ru, .slice xA xn xc] 36)) = w8 at HB8 p0 p3 ⊢
            clear HNEW HAL hnb k0 k1 k2 k3
            go_loopw [78] (fun v78 w9 => ∃ k : Nat, k ≤ xn ∧ v78 = .int .i64 (k : Int) ∧ w8 = w9) (fun v78 _ => xn - (intOf v78).toNat)
            case atStart => exact ⟨0, by omega, rfl, rfl⟩
            case round =>
              obtain ⟨k, hk, rfl, rfl⟩ := hrel
              by_cases hlt : k < xn
              · obtain ⟨d, hd⟩ : ∃ d, ds[k]? = some d := ⟨_, List.getElem?_eq_getElem (by rw [HDL.out]; exact hlt)⟩
                obtain ⟨ax, sv, rfl, hxb, hsv, hsc⟩ := (HX.out.below HB8.out).at_ hlt
                obtain rfl : sv = tsv d := by rw [List.getElem?_map, hd] at hsv; simpa using hsv.symm
                unfold tsv at hsc
                have HLT : Hid (k < xn) := hlt
                have hk0 : (0 : Int) ≤ (k : Int) := by omega
                have hk1 : (k : Int) < (xn : Int) := by omega
                clear hd hsv hlt
                go_wp2
                exact ⟨⟨k + 1, HLT.out, by go_num, by first | trivial | rfl⟩, by have := HLT.out; simp [intOf]; omega⟩
              · obtain rfl : k = xn := by omega
                clear hlt
                go_wp2
                exact ⟨⟨j + 1, HJ.out, by go_num, HB8.out⟩, by have := HJ.out; simp [intOf]; omega⟩
          · obtain rfl : j = n := by omega
            clear hb hlt
            go_wp2_with (go_at_call 5; refine (cfixed_any _).mono ?_; rintro e w9 ⟨rfl, hb9⟩; have HB9 := Lib.hid (HBL.out.trans (hb9.mono HBL.out.size)); clear hb9)
            go_ret
            exact ⟨rfl, HB9.out⟩
  · have GS := Lib.hid gs
    clear hg h gs
    go_enter Try.func3, Try.ntmps3
    go_wp2_with (first
      | (go_at_call 5; refine (cfixed_any _).mono ?_; rintro e w9 ⟨rfl, hb9⟩; have HB9 := Lib.hid (HB2.out.trans (hb9.mono HB2.out.size)); clear hb9)
      | (go_at_call 4; refine HG.out.mono ?_; rintro e w2 ⟨he, hb2⟩; obtain rfl := he.yes GS.out; have HB2 := Lib.hid hb2; clear hb2))
    go_ret
    exact ⟨rfl, HB9.out⟩

end Go.Proofs.Ytcfmpajdhbcimaa
