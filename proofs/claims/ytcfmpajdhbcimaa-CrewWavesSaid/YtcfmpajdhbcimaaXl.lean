/- The document's Check. -/
import Derived.Test.YtcfmpajdhbcimaaXk
namespace Go.Proofs.Ytcfmpajdhbcimaa
open Go.RowKit Go.Sort

theorem nws_take {xs : List Nw} {i j : Nat} {u : Value} (h : (nws (xs.take i))[j]? = some u) : (nws xs)[j]? = some u := by
  have e : nws xs = nws (xs.take i) ++ nws (xs.drop i) := by rw [← nws_app, List.take_append_drop]
  rw [e, List.getElem?_append_left (List.getElem?_eq_some_iff.1 h).1]
  exact h
theorem nodes_take {w : World} {B n : Nat} {A : Option Addr} {xs : List Nw} (h : Reads w B 4 A n (nws xs)) {i : Nat} (hi : i ≤ n) : Reads w B 4 A i (nws (xs.take i)) := by
  have h1 := h.1
  rw [nws_len] at h1
  refine ⟨by rw [nws_len, List.length_take]; omega, fun hn => ?_⟩
  obtain ⟨ad, rfl, hb, hc⟩ := h.2 (by omega)
  exact ⟨ad, rfl, hb, fun j u hu => hc j u (nws_take hu)⟩
theorem nds_take (xs : List Nw) (i : Nat) : nds (xs.take i) = (nds xs).take i := List.map_take ..
theorem tplace_pos {l : List (List UInt8)} {s : List UInt8} (h : s ∈ l) : ∃ k : Nat, tplace l s = (k : Int) := ⟨_, if_pos h⟩

set_option maxRecDepth 100000 in
set_option maxHeartbeats 8000000 in
theorem rcheck_any (A : Option Addr) (n c : Nat) (xs : List Nw) (hn : n ≤ 1000000) (hnc : n ≤ c) (hok : NOk xs) (hxc : ∀ x ∈ xs, x.n ≤ x.c) (w : World) (h : Nodes w w.heap.size A n xs) :
    Calls Try.prog 12 #[.slice A n c] w fun e w' => e = .returned (.int .i64 (chk (nds xs))) ∧ Below w.heap.size w w' := by
  have HL : Hid (xs.length = n) := h.len
  have HLD : Hid ((nds xs).length = n) := by show _ = _; rw [nds_len]; exact h.len
  have HNS := Lib.hid h
  have HF := Lib.hid hok
  have HXC := Lib.hid hxc
  have HNC := Lib.hid hnc
  have HCK : Hid (chk (nds xs) = if 64 < n then 5 else if errN (nds xs) n ≠ 0 then errN (nds xs) n else if ¬ depsIn (nds xs) then 6 else if (ord (nds xs)).length < n then 9 else 0) := by
    show chk _ = _
    unfold chk
    rw [HLD.out]
  have HTO : Hid (∀ i, i ≤ n → errN (nds xs) i ≠ 0 → n ≤ 64 → chk (nds xs) = errN (nds xs) i) := fun i hi h1 h64 => by
    have h2 := err_to h1 (by rw [HLD.out]; exact hi)
    rw [HLD.out] at h2
    rw [HCK.out, if_neg (by omega), if_pos (by rw [h2]; exact h1), h2]
  clear h hok hxc hnc
  by_cases h64 : 64 < n
  · have d64 : decide ((n : Int) > 64) = true := decide_eq_true (by omega)
    have HCE : Hid (chk (nds xs) = 5) := HCK.out.trans (if_pos h64)
    go_enter Try.func12, Try.ntmps12
    go_wp2
    go_ret
    exact ⟨by rw [HCE.out]; rfl, Below.refl _ _⟩
  have d64 : decide ((n : Int) > 64) = false := decide_eq_false (by omega)
  have h64n : n ≤ 64 := by omega
  clear h64
  go_enter Try.func12, Try.ntmps12
  go_wp2
  go_loopw [3] (fun idx wr => ∃ i : Nat, i ≤ n ∧ idx = .int .i64 (i : Int) ∧ errN (nds xs) i = 0 ∧ Below w.heap.size w wr) (fun idx _ => n - (intOf idx).toNat)
  case atStart => exact ⟨0, by omega, rfl, rfl, Below.refl _ _⟩
  case round =>
    obtain ⟨i, hi, rfl, her, hb⟩ := hrel
    have HB := Lib.hid hb
    have HER := Lib.hid her
    by_cases hlt : i < n
    · obtain ⟨x, hx⟩ : ∃ x, xs[i]? = some x := ⟨_, List.getElem?_eq_getElem (by rw [HL.out]; exact hlt)⟩
      have hnr := (HNS.out.below hb)
      obtain ⟨ad, rfl, hab, k0, k1, k2, k3⟩ := nodes_cells hnr.1 i x hx
      have hmx := List.mem_of_getElem? hx
      have hfx := HF.out x hmx
      have HES := Lib.hid (err_step (nds_at hx) her)
      have HONE : Hid (∀ q : Nat, Calls Try.prog 21 #[x.val] (wr.drewN q) fun e w' => e = .returned (.int .i64 (aloneE x.d)) ∧ Below (wr.drewN q).heap.size (wr.drewN q) w') := fun q => rone_any x hfx.2 (HXC.out x hmx) (wr.drewN q) (Reads.more (Reads.drewN (hnr.2 x hmx) q) hb.size)
      have HPL : Hid (∀ q : Nat, Calls Try.prog 14 #[.slice (some ad) i c, .string (tx x.d.name)] (wr.drewN q) fun e w' => e = .returned (.int .i64 (tplace (((nds xs).take i).map Nd.name) x.d.name)) ∧ w' = wr.drewN q) := fun q => by
        rw [← nds_take]
        exact Calls.mono (rplace_any (some ad) i c (xs.take i) x.d.name (by omega) (wr.drewN q) ((Reads.drewN (nodes_take hnr.1 (by omega)) q).more hb.size)) (fun e w' h => ⟨h.1, h.2.symm⟩)
      have hsl : ∀ W : World, (Instr.sliceAt 22 (.slice (some ad) n c) none (some (.int .i64 (i : Int))) none).run Try.prog W = .ok (.slice (some ad) i c) W := fun W => by
        have e2 : (0 : Int) ≤ (i : Int) := by omega
        have e3 : (i : Int) ≤ (c : Int) := by have := HNC.out; omega
        go_simp
      have hi0 : (0 : Int) ≤ (i : Int) := by omega
      have hi1 : (i : Int) < (n : Int) := by omega
      have hi2 : (i : Int) ≤ (c : Int) := by have := HNC.out; omega
      obtain ⟨⟨nm, sc, ru, ds⟩, xA, xn, xc⟩ := x
      unfold Nw.val at HONE
      simp only at k0 k1 k2 k3 HONE HPL HES
      by_cases hin : nm ∈ ((nds xs).take i).map Nd.name
      · have HE1 : Hid (chk (nds xs) = 1) := by
          have h1 : errN (nds xs) (i + 1) = 1 := HES.out.trans (if_pos hin)
          exact (HTO.out (i + 1) (by omega) (by rw [h1]; decide) h64n).trans h1
        obtain ⟨k, hk⟩ := tplace_pos hin
        rw [hk] at HPL
        have hge : decide ((k : Int) ≥ 0) = true := decide_eq_true (by omega)
        clear hx hnr hmx hfx her hb hin hk
        go_wp2
        go_quiet ((go_at_call 14; exact Calls.quiet_of_same (HPL.out _)))
        go_wp2
        go_ret
        exact ⟨by rw [HE1.out]; rfl, HB.out.trans (below_drewN _ _ _)⟩
      · have ht : tplace (((nds xs).take i).map Nd.name) nm = -1 := if_neg hin
        rw [ht] at HPL
        have HE1 : Hid (errN (nds xs) (i + 1) = aloneE ⟨nm, sc, ru, ds⟩) := HES.out.trans (if_neg hin)
        obtain ⟨z, hz⟩ : ∃ z, z = aloneE ⟨nm, sc, ru, ds⟩ := ⟨_, rfl⟩
        rw [← hz] at HE1 HONE
        clear hx hnr hmx hfx her hb hin ht hz
        by_cases h0 : z = 0
        · subst h0
          go_wp2
          go_quiet ((go_at_call 14; exact Calls.quiet_of_same (HPL.out _)))
          go_wp2_with (go_at_call 21; refine (HONE.out _).mono ?_; rintro e w3 ⟨rfl, hb3⟩; have HB3 := Lib.hid ((HB.out.trans (below_drewN _ _ nq)).trans (hb3.mono (HB.out.trans (below_drewN _ _ nq)).size)); clear hb3)
          exact ⟨⟨i + 1, by omega, by go_num, HE1.out, HB3.out⟩, by simp [intOf]; omega⟩
        · have hne : (z != 0) = true := by rw [bne_iff_ne]; exact h0
          have HCE : Hid (chk (nds xs) = z) := (HTO.out (i + 1) (by omega) (by rw [HE1.out]; exact h0) h64n).trans HE1.out
          clear h0
          go_wp2
          go_quiet ((go_at_call 14; exact Calls.quiet_of_same (HPL.out _)))
          go_wp2_with (go_at_call 21; refine (HONE.out _).mono ?_; rintro e w3 ⟨rfl, hb3⟩; have HB3 := Lib.hid ((HB.out.trans (below_drewN _ _ nq)).trans (hb3.mono (HB.out.trans (below_drewN _ _ nq)).size)); clear hb3)
          go_ret
          exact ⟨by rw [HCE.out]; rfl, HB3.out⟩
    · obtain rfl : n = i := by omega
      have HND : Hid (((nds xs).map Nd.name).Nodup) := by
        have := (err_ok (l := nds xs) (i := n) (by rw [HLD.out]; omega)).1 her
        rw [List.take_of_length_le (by rw [HLD.out]; omega)] at this
        exact this.1
      have HC2 : Hid (chk (nds xs) = if ¬ depsIn (nds xs) then 6 else if (ord (nds xs)).length < n then 9 else 0) := HCK.out.trans (by rw [if_neg (by omega), if_neg (by simpa using her)])
      clear her hb hi hlt
      go_wp2
      go_loopw [5] (fun idx wr => ∃ i : Nat, i ≤ n ∧ idx = .int .i64 (i : Int) ∧ (∀ y ∈ (nds xs).take i, ∀ d ∈ y.deps, d ∈ (nds xs).map Nd.name) ∧ Below w.heap.size w wr) (fun idx _ => n - (intOf idx).toNat)
      case atStart => exact ⟨0, by omega, rfl, by simp, HB.out⟩
      case round =>
        obtain ⟨i, hi, rfl, hall, hb2⟩ := hrel
        have HALL := Lib.hid hall
        have HB2 := Lib.hid hb2
        by_cases hlt : i < n
        · obtain ⟨x, hx⟩ : ∃ x, xs[i]? = some x := ⟨_, List.getElem?_eq_getElem (by rw [HL.out]; exact hlt)⟩
          have HX := Lib.hid hx
          have HXD := Lib.hid (nds_at hx)
          have hmx := List.mem_of_getElem? hx
          have hfx := HF.out x hmx
          have hin := HNS.out.2 x hmx
          have HDL : Hid (x.d.deps.length = x.n) := hin.len
          obtain ⟨⟨nm, sc, ru, ds⟩, xA, xn, xc⟩ := x
          have hxn : xn ≤ 1000000 := hfx.2
          have HDS : Hid (Reads w w.heap.size 1 xA xn (ds.map tsv)) := hin
          simp only at HXD HDL
          have hi0 : (0 : Int) ≤ (i : Int) := by omega
          have hi1 : (i : Int) < (n : Int) := by omega
          clear hx hmx hfx hin hall hb2
          go_wp2
          go_loopw [6] (fun v7 w3 => ∃ (j : Nat), j ≤ xn ∧ v7 = .int .i64 (j : Int) ∧ (∀ d ∈ ds.take j, d ∈ (nds xs).map Nd.name) ∧ Below w.heap.size w w3) (fun v7 _ => xn - (intOf v7).toNat)
          case atStart => exact ⟨0, by omega, rfl, by simp, HB2.out⟩
          case round =>
            obtain ⟨j, hj, rfl, hdd, hb3⟩ := hrel
            have HDD := Lib.hid hdd
            have HB3 := Lib.hid hb3
            obtain ⟨ad, rfl, hab, k0, k1, k2, k3⟩ := nodes_cells (HNS.out.below hb3).1 i _ HX.out
            simp only at k0 k1 k2 k3
            by_cases hlt3 : j < xn
            · obtain ⟨s, hs⟩ : ∃ s, ds[j]? = some s := ⟨_, List.getElem?_eq_getElem (by rw [HDL.out]; exact hlt3)⟩
              obtain ⟨ax, sv, rfl, hxb, hsv, hsc⟩ := (HDS.out.below hb3).at_ hlt3
              obtain rfl : sv = tsv s := by rw [List.getElem?_map, hs] at hsv; simpa using hsv.symm
              unfold tsv at hsc
              have HTK : Hid (ds.take (j + 1) = ds.take j ++ [s]) := by show _ = _; rw [List.take_add_one, hs]; rfl
              have HSM := Lib.hid (List.mem_of_getElem? hs)
              have hj0 : (0 : Int) ≤ (j : Int) := by omega
              have hj1 : (j : Int) < (xn : Int) := by omega
              have HPL := Lib.hid (rplace_any (some ad) n c xs s hn wr ((HNS.out.below hb3).1.more hb3.size))
              by_cases hin : s ∈ (nds xs).map Nd.name
              · obtain ⟨q, hq⟩ := tplace_pos hin
                rw [hq] at HPL
                have hq0 : decide ((q : Int) < 0) = false := decide_eq_false (by omega)
                have HD2 : Hid (∀ d ∈ ds.take (j + 1), d ∈ (nds xs).map Nd.name) := fun d hd => by
                  rw [HTK.out] at hd
                  rcases List.mem_append.1 hd with hd | hd
                  · exact HDD.out d hd
                  · rw [List.mem_singleton.1 hd]; exact hin
                clear hs hsv hdd hb3 hin hq
                go_wp2_with (go_at_call 14; refine HPL.out.mono ?_; rintro e w8 ⟨rfl, rfl⟩)
                exact ⟨⟨j + 1, by omega, by go_num, HD2.out, HB3.out⟩, by simp [intOf]; omega⟩
              · have ht : tplace ((nds xs).map Nd.name) s = -1 := if_neg hin
                rw [ht] at HPL
                have HCE : Hid (chk (nds xs) = 6) := HC2.out.trans (if_pos (fun h => hin (h _ (List.mem_of_getElem? HXD.out) s HSM.out)))
                clear hs hsv hdd hb3 hin ht
                go_wp2_with (go_at_call 14; refine HPL.out.mono ?_; rintro e w8 ⟨rfl, rfl⟩)
                go_ret
                exact ⟨by rw [HCE.out]; rfl, HB3.out⟩
            · obtain rfl : xn = j := by omega
              rw [List.take_of_length_le (by rw [HDL.out]; omega)] at HDD
              have HA2 := Lib.hid (in_step HXD.out HALL.out HDD.out)
              clear hdd hb3
              go_wp2
              exact ⟨⟨i + 1, by omega, by go_num, HA2.out, HB3.out⟩, by simp [intOf]; omega⟩
        · obtain rfl : n = i := by omega
          have HDI : Hid (depsIn (nds xs)) := by
            show depsIn _
            have := HALL.out
            rw [List.take_of_length_le (by rw [HLD.out]; omega)] at this
            exact this
          have HC3 : Hid (chk (nds xs) = if (ord (nds xs)).length < n then 9 else 0) := HC2.out.trans (if_neg (by simpa using HDI.out))
          have HROW := Lib.hid (rrow_any A n c xs hn HF.out HND.out HDI.out wr ((HNS.out.below hb2).more hb2.size))
          obtain ⟨m, hm⟩ : ∃ m, m = (ord (nds xs)).length := ⟨_, rfl⟩
          rw [← hm] at HC3
          have HM := Lib.hid hm
          clear hm hb2 hall hi hlt
          by_cases hmi : m < n
          · have HCE : Hid (chk (nds xs) = 9) := HC3.out.trans (if_pos hmi)
            have d1 : decide ((m : Int) < (n : Int)) = true := decide_eq_true (by omega)
            go_wp2_with (go_at_call 13; refine HROW.out.mono ?_; rintro e w5 ⟨⟨A5, c5, rfl, ho⟩, hb5⟩; rw [← HM.out]; have HB5 := Lib.hid (HB2.out.trans (hb5.mono HB2.out.size)); clear hb5 ho)
            go_ret
            exact ⟨by rw [HCE.out]; rfl, HB5.out⟩
          · have HCE : Hid (chk (nds xs) = 0) := HC3.out.trans (if_neg hmi)
            have d1 : decide ((m : Int) < (n : Int)) = false := decide_eq_false (by omega)
            go_wp2_with (go_at_call 13; refine HROW.out.mono ?_; rintro e w5 ⟨⟨A5, c5, rfl, ho⟩, hb5⟩; rw [← HM.out]; have HB5 := Lib.hid (HB2.out.trans (hb5.mono HB2.out.size)); clear hb5 ho)
            go_ret
            exact ⟨by rw [HCE.out]; rfl, HB5.out⟩

end Go.Proofs.Ytcfmpajdhbcimaa
