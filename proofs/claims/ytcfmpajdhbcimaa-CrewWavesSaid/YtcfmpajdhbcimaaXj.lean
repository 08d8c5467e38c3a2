/- The document's place of a node; whether a place is in; what is wrong with one node. -/
import Derived.Test.YtcfmpajdhbcimaaXi
import Derived.Test.YtcfmpajdhbcimaaIh0
import Derived.Test.YtcfmpajdhbcimaaRb
namespace Go.Proofs.Ytcfmpajdhbcimaa
open Go.RowKit Go.Sort

set_option maxRecDepth 100000 in
set_option maxHeartbeats 1000000 in
theorem rplace_any (A : Option Addr) (n c : Nat) (xs : List Nw) (s : List UInt8) (hn : n ≤ 1000000) (w : World) (h : Reads w w.heap.size 4 A n (nws xs)) :
    Calls Try.prog 14 #[.slice A n c, .string (tx s)] w fun e w' => e = .returned (.int .i64 (tplace ((nds xs).map Nd.name) s)) ∧ w = w' := by
  have HL : Hid (xs.length = n) := by have := h.1; rw [nws_len] at this; show _ = _; omega
  have HNS := Lib.hid h
  clear h
  go_enter Try.func14, Try.ntmps14
  go_wp2
  go_loopw [5] (fun idx wr => ∃ i : Nat, i ≤ n ∧ idx = .int .i64 (i : Int) ∧ s ∉ ((nds xs).map Nd.name).take i ∧ w = wr) (fun idx wr => n - (intOf idx).toNat)
  case atStart => exact ⟨0, by omega, rfl, by simp, rfl⟩
  case round =>
    obtain ⟨i, hi, rfl, hno, rfl⟩ := hrel
    by_cases hlt : i < n
    · obtain ⟨x, hx⟩ : ∃ x, xs[i]? = some x := ⟨_, List.getElem?_eq_getElem (by rw [HL.out]; exact hlt)⟩
      obtain ⟨ad, rfl, hab, k0, k1, k2, k3⟩ := nodes_cells HNS.out i x hx
      have hs : ((nds xs).map Nd.name)[i]? = some x.d.name := by rw [List.getElem?_map, nds_at hx]; rfl
      have hi0 : (0 : Int) ≤ (i : Int) := by omega
      have hi1 : (i : Int) < (n : Int) := by omega
      generalize x.d.name = t at hs k0
      by_cases e : t = s
      · have hp := Lib.hid (tplace_at hno hs e)
        subst e
        have hself : ((tx t).toList == (tx t).toList) = true := by simp
        clear hs hno hx k1 k2 k3
        go_wp2
        go_ret
        rw [hp.out]
        exact ⟨rfl, by first | rfl | trivial⟩
      · have hne : ((tx t).toList == (tx s).toList) = false := by
          rw [beq_eq_false_iff_ne]
          intro e2
          exact e (by simpa [tx] using e2)
        have HNO : Hid (s ∉ ((nds xs).map Nd.name).take (i + 1)) := by
          show s ∉ _
          rw [List.take_add_one, hs]
          intro h
          rcases List.mem_append.1 h with h | h
          · exact hno h
          · exact e (show s = t by simpa using h).symm
        clear hs hno e hx k1 k2 k3
        go_wp2
        exact ⟨⟨i + 1, by omega, by go_num, HNO.out, by first | rfl | trivial⟩, by simp [intOf]; omega⟩
    · obtain rfl : i = n := by omega
      have hp : Hid (tplace ((nds xs).map Nd.name) s = -1) := by
        show tplace _ s = -1
        rw [List.take_of_length_le (by rw [List.length_map, nds_len, HL.out]; omega)] at hno
        unfold tplace
        rw [if_neg hno]
      clear hno
      go_wp2
      go_ret
      rw [hp.out]
      exact ⟨rfl, by first | rfl | trivial⟩

set_option maxRecDepth 100000 in
set_option maxHeartbeats 1000000 in
theorem in_any (A : Option Addr) (n c : Nat) (o : List Nat) (q : Nat) (hn : n ≤ 1000000) (w : World) (h : Reads w w.heap.size 1 A n (ivs o)) :
    Calls Try.prog 22 #[.slice A n c, .int .i64 (q : Int)] w fun e w' => Tells (q ∈ o) e ∧ w = w' := by
  have HL : Hid (o.length = n) := by have := h.1; rw [ivs_len] at this; show _ = _; omega
  have HR := Lib.hid h
  clear h
  go_enter Try.func22, Try.ntmps22
  go_wp2
  go_loopw [5] (fun idx wr => ∃ i : Nat, i ≤ n ∧ idx = .int .i64 (i : Int) ∧ q ∉ o.take i ∧ w = wr) (fun idx wr => n - (intOf idx).toNat)
  case atStart => exact ⟨0, by omega, rfl, by simp, rfl⟩
  case round =>
    obtain ⟨i, hi, rfl, hno, rfl⟩ := hrel
    have HNO0 := Lib.hid hno
    by_cases hlt : i < n
    · obtain ⟨j, hj⟩ : ∃ j, o[i]? = some j := ⟨_, List.getElem?_eq_getElem (by rw [HL.out]; exact hlt)⟩
      obtain ⟨ad, u, rfl, _, hu, hcell⟩ := HR.out.at_ hlt
      obtain rfl : u = .int .i64 (j : Int) := by unfold ivs at hu; rw [List.getElem?_map, hj] at hu; simpa using hu.symm
      have HJ := Lib.hid hj
      have hi0 : (0 : Int) ≤ (i : Int) := by omega
      have hi1 : (i : Int) < (n : Int) := by omega
      by_cases e : j = q
      · subst e
        have hself : (((j : Nat) : Int) == (j : Int)) = true := by simp
        clear hu hno hj
        go_wp2
        go_ret
        exact ⟨tells_true (List.mem_of_getElem? HJ.out), by first | rfl | trivial⟩
      · have hne : (((j : Nat) : Int) == (q : Int)) = false := by rw [beq_eq_false_iff_ne]; omega
        have HNO : Hid (q ∉ o.take (i + 1)) := by
          show q ∉ _
          rw [List.take_add_one, hj]
          intro h
          rcases List.mem_append.1 h with h | h
          · exact hno h
          · exact e (show q = j by simpa using h).symm
        clear hu hno hj e
        go_wp2
        exact ⟨⟨i + 1, by omega, by go_num, HNO.out, by first | rfl | trivial⟩, by simp [intOf]; omega⟩
    · obtain rfl : i = n := by omega
      rw [List.take_of_length_le (by rw [HL.out]; omega)] at HNO0
      clear hno
      go_wp2
      go_ret
      exact ⟨tells_false HNO0.out, by first | rfl | trivial⟩

set_option maxRecDepth 100000 in
set_option maxHeartbeats 4000000 in
theorem rone_any (x : Nw) (hn : x.n ≤ 1000000) (hnc : x.n ≤ x.c) (w : World) (hx : NIn w w.heap.size x) :
    Calls Try.prog 21 #[x.val] w fun e w' => e = .returned (.int .i64 (aloneE x.d)) ∧ Below w.heap.size w w' := by
  have HL : Hid (x.d.deps.length = x.n) := hx.len
  have HX : Hid (Reads w w.heap.size 1 x.A x.n (x.d.deps.map tsv)) := hx
  have HNA := Lib.hid (fun W => rname_any x.d.name W)
  have HNC := Lib.hid hnc
  obtain ⟨⟨nm, sc, ru, ds⟩, xA, n, xc⟩ := x
  unfold Nw.val
  unfold rsv at HNA
  simp only at *
  have H0 := Lib.hid (one_new w (.cells #[.string (tx nm), .bool sc, .int .u64 ru, .slice xA n xc] 36))
  have HB0 := Lib.hid ((Below.refl w.heap.size w).alloc (Nat.le_refl _) (.cells #[.string (tx nm), .bool sc, .int .u64 ru, .slice xA n xc] 36))
  have q0 := at_cell (i := 0) H0.out rfl
  have q1 := at_cell (i := 1) H0.out rfl
  have q2 := at_cell (i := 2) H0.out rfl
  have q3 := at_cell (i := 3) H0.out rfl
  clear hx hnc
  cases hq : isName nm with
  | false =>
    have HE : Hid (aloneE ⟨nm, sc, ru, ds⟩ = 1) := by
      show aloneE _ = 1
      unfold aloneE
      rw [if_pos (fun h => by rw [(isName_iff nm).2 h] at hq; cases hq)]
    rw [hq] at HNA
    clear hq
    go_enter Try.func21, Try.ntmps21
    go_wp2_with (go_at_call 36; refine (HNA.out _).mono ?_; rintro e w2 ⟨rfl, rfl⟩)
    go_ret
    exact ⟨by rw [HE.out]; rfl, HB0.out⟩
  | true =>
    have hq2 := (isName_iff nm).1 hq
    rw [hq] at HNA
    clear hq
    cases sc with
    | false =>
      have HEQ : Hid (aloneE ⟨nm, false, ru, ds⟩ = if ¬ (nm :: ds).Nodup then 1 else if 16 < ds.length then 5 else 0) := by
        show aloneE _ = _
        unfold aloneE
        rw [if_neg (by simpa using hq2), if_neg (by simp)]
      clear hq2
      go_enter Try.func21, Try.ntmps21
      go_wp2_with (go_at_call 36; refine (HNA.out _).mono ?_; rintro e w2 ⟨rfl, rfl⟩)
      clear q0 q1 q2 q3
      go_loopw [3] (fun idx wr => ∃ i : Nat, i ≤ n ∧ idx = .int .i64 (i : Int) ∧ (nm :: ds.take i).Nodup ∧ wr.heap[w.heap.size]? = some (.cells #[.string (tx nm), .bool false, .int .u64 ru, .slice xA n xc] 36) ∧ Below w.heap.size w wr) (fun idx _ => n - (intOf idx).toNat)
      case atStart => exact ⟨0, by omega, rfl, by simp, H0.out, HB0.out⟩
      case round =>
        obtain ⟨i, hi, rfl, hnd, hh, hb⟩ := hrel
        have HND := Lib.hid hnd
        have HH := Lib.hid hh
        have HB := Lib.hid hb
        have q0 := at_cell (i := 0) hh rfl
        have q3 := at_cell (i := 3) hh rfl
        by_cases hlt : i < n
        · obtain ⟨s, hs⟩ : ∃ s, ds[i]? = some s := ⟨_, List.getElem?_eq_getElem (by rw [HL.out]; exact hlt)⟩
          obtain ⟨ax, sv, rfl, hxb, hsv, hsc⟩ := (HX.out.below hb).at_ hlt
          obtain rfl : sv = tsv s := by rw [List.getElem?_map, hs] at hsv; simpa using hsv.symm
          unfold tsv at hsc
          have HTK : Hid (ds.take (i + 1) = ds.take i ++ [s]) := by show _ = _; rw [List.take_add_one, hs]; rfl
          have HSM := Lib.hid (List.mem_of_getElem? hs)
          have HPL : Hid (∀ q : Nat, Calls Try.prog 37 #[.slice (some ax) i xc, .string (tx s)] (wr.drewN q) fun e w' => e = .returned (.int .i64 (tplace (ds.take i) s)) ∧ w' = wr.drewN q) := fun q => Calls.mono (place_any (some ax) i xc (ds.take i) s (by omega) (wr.drewN q) (by
            have h1 := (Reads.drewN (HX.out.below hb) q).take (k := i) (by omega)
            rw [← List.map_take] at h1
            exact h1.more hb.size)) (fun e w' h => ⟨h.1, h.2.symm⟩)
          have hsl : ∀ W : World, (Instr.sliceAt 33 (.slice (some ax) n xc) none (some (.int .i64 (i : Int))) none).run Try.prog W = .ok (.slice (some ax) i xc) W := fun W => by
            have e2 : (0 : Int) ≤ (i : Int) := by omega
            have e3 : (i : Int) ≤ (xc : Int) := by have := HNC.out; omega
            go_simp
          have hi0 : (0 : Int) ≤ (i : Int) := by omega
          have hi1 : (i : Int) < (n : Int) := by omega
          have hi2 : (i : Int) ≤ (xc : Int) := by have := HNC.out; omega
          by_cases hsn : s = nm
          · have HCE : Hid (aloneE ⟨nm, false, ru, ds⟩ = 1) := HEQ.out.trans (if_pos (fun h => (List.nodup_cons.1 h).1 (hsn ▸ HSM.out)))
            have he : ((tx s).toList == (tx nm).toList) = true := by rw [hsn]; exact beq_self_eq_true _
            clear hs hsv hnd hh hb hsn
            go_wp2
            go_quiet (fail)
            go_wp2
            go_ret
            exact ⟨by rw [HCE.out]; rfl, HB.out.trans (below_drewN _ _ _)⟩
          · have he : ((tx s).toList == (tx nm).toList) = false := by
              rw [beq_eq_false_iff_ne]
              intro e2
              exact hsn (by simpa [tx] using e2)
            by_cases hin : s ∈ ds.take i
            · have HCE : Hid (aloneE ⟨nm, false, ru, ds⟩ = 1) := HEQ.out.trans (if_pos (fun h => by
                have h1 : (nm :: ds.take (i + 1)).Nodup := List.Nodup.sublist (List.Sublist.cons_cons _ (List.take_sublist _ _)) h
                rw [HTK.out, ← List.cons_append, List.nodup_append] at h1
                exact h1.2.2 s (List.mem_cons_of_mem _ hin) s (by simp) rfl))
              have ht : tplace (ds.take i) s = (((ds.take i).idxOf s : Nat) : Int) := if_pos hin
              rw [ht] at HPL
              generalize (ds.take i).idxOf s = k at HPL
              have hge : decide ((k : Int) ≥ 0) = true := decide_eq_true (by omega)
              clear hs hsv hnd hh hb hsn hin ht
              go_wp2
              go_quiet ((go_at_call 37; exact Calls.quiet_of_same (HPL.out _)))
              go_wp2
              go_ret
              exact ⟨by rw [HCE.out]; rfl, HB.out.trans (below_drewN _ _ _)⟩
            · have ht : tplace (ds.take i) s = -1 := if_neg hin
              rw [ht] at HPL
              have HN2 : Hid ((nm :: ds.take (i + 1)).Nodup) := by
                show List.Nodup _
                rw [HTK.out, ← List.cons_append, List.nodup_append]
                refine ⟨HND.out, by simp, fun a ha b hb => ?_⟩
                obtain rfl := List.mem_singleton.1 hb
                intro e
                subst e
                rcases List.mem_cons.1 ha with h | h
                · exact hsn h
                · exact hin h
              clear hs hsv hnd hh hb hsn hin ht
              go_wp2
              go_quiet ((go_at_call 37; exact Calls.quiet_of_same (HPL.out _)))
              go_wp2
              exact ⟨⟨i + 1, by omega, by go_num, HN2.out, HH.out, HB.out.trans (below_drewN _ _ _)⟩, by simp [intOf]; omega⟩
        · obtain rfl : i = n := by omega
          rw [List.take_of_length_le (by rw [HL.out]; omega)] at HND
          have HE2 : Hid (aloneE ⟨nm, false, ru, ds⟩ = if 16 < ds.length then 5 else 0) := HEQ.out.trans (if_neg (by simpa using HND.out))
          clear hnd hh hb
          by_cases h16 : i ≤ 16
          · have d16 : decide ((i : Int) > 16) = false := decide_eq_false (by omega)
            have HCE : Hid (aloneE ⟨nm, false, ru, ds⟩ = 0) := HE2.out.trans (if_neg (by rw [HL.out]; omega))
            go_wp2
            go_ret
            exact ⟨by rw [HCE.out]; rfl, HB.out⟩
          · have d16 : decide ((i : Int) > 16) = true := decide_eq_true (by omega)
            have HCE : Hid (aloneE ⟨nm, false, ru, ds⟩ = 5) := HE2.out.trans (if_pos (by rw [HL.out]; omega))
            go_wp2
            go_ret
            exact ⟨by rw [HCE.out]; rfl, HB.out⟩
    | true =>
      by_cases hn0 : n = 0
      · have hds : ds = [] := List.length_eq_zero_iff.1 (by rw [HL.out]; exact hn0)
        subst hn0
        by_cases hr : ru = 0
        · subst hr
          have HEQ : Hid (aloneE ⟨nm, true, 0, ds⟩ = if ¬ (nm :: ds).Nodup then 1 else if 16 < ds.length then 5 else 0) := by
            show aloneE _ = _
            unfold aloneE
            rw [if_neg (by simpa using hq2), if_neg (by rw [hds]; simp)]
          have HE : Hid (aloneE ⟨nm, true, 0, ds⟩ = 0) := HEQ.out.trans (by rw [if_neg (by rw [hds]; simp), if_neg (by rw [hds]; simp)])
          clear hq2 hds
          go_enter Try.func21, Try.ntmps21
          go_wp2_with (go_at_call 36; refine (HNA.out _).mono ?_; rintro e w2 ⟨rfl, rfl⟩)
          clear q0 q1 q2 q3
          go_loopw [3] (fun idx wr => idx = .int .i64 0 ∧ wr.heap[w.heap.size]? = some (.cells #[.string (tx nm), .bool true, .int .u64 0, .slice xA 0 xc] 36) ∧ Below w.heap.size w wr) (fun _ _ => 0)
          case atStart => exact ⟨rfl, H0.out, HB0.out⟩
          case round =>
            obtain ⟨rfl, hh, hb⟩ := hrel
            have HB := Lib.hid hb
            have q3 := at_cell (i := 3) hh rfl
            clear hh hb
            go_wp2
            go_ret
            exact ⟨by rw [HE.out]; rfl, HB.out⟩
        · have hr2 : (ru != 0) = true := by rw [bne_iff_ne]; exact hr
          have HE : Hid (aloneE ⟨nm, true, ru, ds⟩ = 1) := by
            show aloneE _ = _
            unfold aloneE
            rw [if_neg (by simpa using hq2), if_pos ⟨rfl, .inr hr⟩]
          clear hq2 hds hr
          go_enter Try.func21, Try.ntmps21
          go_wp2_with (go_at_call 36; refine (HNA.out _).mono ?_; rintro e w2 ⟨rfl, rfl⟩)
          go_ret
          exact ⟨by rw [HE.out]; rfl, HB0.out⟩
      · have hds : ds ≠ [] := fun e => hn0 (by rw [← HL.out, e]; rfl)
        have dn : decide ((n : Int) > 0) = true := decide_eq_true (by omega)
        have HE : Hid (aloneE ⟨nm, true, ru, ds⟩ = 1) := by
          show aloneE _ = _
          unfold aloneE
          rw [if_neg (by simpa using hq2), if_pos ⟨rfl, .inl hds⟩]
        clear hq2 hds
        go_enter Try.func21, Try.ntmps21
        go_wp2_with (go_at_call 36; refine (HNA.out _).mono ?_; rintro e w2 ⟨rfl, rfl⟩)
        go_ret
        exact ⟨by rw [HE.out]; rfl, HB0.out⟩

end Go.Proofs.Ytcfmpajdhbcimaa
