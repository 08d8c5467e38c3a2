/- The document's Row. -/
import Derived.Test.YtcfmpajdhbcimaaXj
import Derived.Test.YtcfmpajdhbcimaaGj
namespace Go.Proofs.Ytcfmpajdhbcimaa
open Go.RowKit Go.Sort

/-- Is it so, as a bool? -/
def FreeIs (b : Bool) (P : Prop) : Prop := b = true ↔ P
theorem free_no {P : Prop} (h : Hid (FreeIs false P)) : ¬ P := fun hp => by have := h.out.2 hp; cases this
theorem free_yes {P : Prop} (h : Hid (FreeIs true P)) : P := h.out.1 rfl
/-- The place found so far. -/
def AtV (o : Option Nat) (v : Value) : Prop := (o = none ∧ v = .int .i64 (-1)) ∨ ∃ k : Nat, o = some k ∧ v = .int .i64 (k : Int)
theorem place_nm {l : List Nd} {o : List Nat} {i : Nat} {x : Nd} (hn : (l.map Nd.name).Nodup) (hx : l[i]? = some x) : i ∈ o ↔ x.name ∈ nmOf l o := by
  rw [nm_mem]
  constructor
  · intro h; exact ⟨i, h, x, hx, rfl⟩
  · rintro ⟨j, hj, y, hy, e⟩
    rw [← nodup_at hn hy hx e]
    exact hj
theorem place_dep {l : List Nd} {o : List Nat} {d : List UInt8} (hn : (l.map Nd.name).Nodup) (hd : d ∈ l.map Nd.name) : ∃ q : Nat, tplace (l.map Nd.name) d = (q : Int) ∧ (q ∈ o ↔ d ∈ nmOf l o) := by
  refine ⟨(l.map Nd.name).idxOf d, if_pos hd, ?_⟩
  have hlt := List.idxOf_lt_length_iff.2 hd
  have hg : (l.map Nd.name)[(l.map Nd.name).idxOf d]? = some d := by rw [List.getElem?_eq_getElem hlt, List.getElem_idxOf]
  rw [List.getElem?_map] at hg
  cases hx : l[(l.map Nd.name).idxOf d]? with
  | none => rw [hx] at hg; cases hg
  | some x =>
    rw [hx] at hg
    have hd2 : x.name = d := by simpa using hg
    have := place_nm (o := o) hn hx
    rw [hd2] at this
    exact this

set_option maxRecDepth 100000 in
set_option maxHeartbeats 8000000 in
theorem rrow_any (A : Option Addr) (n c : Nat) (xs : List Nw) (hn : n ≤ 1000000) (hok : NOk xs) (hnd : ((nds xs).map Nd.name).Nodup) (hdi : depsIn (nds xs)) (w : World) (h : Nodes w w.heap.size A n xs) :
    Calls Try.prog 13 #[.slice A n c] w fun e w' => (∃ A' c', e = .returned (.slice A' (ord (nds xs)).length c') ∧ w'.ownsRow w.heap.size 3 1 (.slice A' (ord (nds xs)).length c') (ord (nds xs)).length (ivs (ord (nds xs)))) ∧ Below w.heap.size w w' := by
  have HL : Hid (xs.length = n) := h.len
  have HLD : Hid ((nds xs).length = n) := by show _ = _; rw [nds_len]; exact h.len
  have HNS := Lib.hid h
  have HF := Lib.hid hok
  have HND := Lib.hid hnd
  have HDI := Lib.hid hdi
  have HOE := Lib.hid (own_empty w 3)
  have HBE := Lib.hid ((Below.refl w.heap.size w).alloc (Nat.le_refl _) (.cells #[] 3))
  obtain ⟨ii, hi0, hz0, hz1, hz2⟩ := info_parts info_int
  clear h hok hnd hdi
  go_enter Try.func13, Try.ntmps13
  go_wp2
  go_loopw [3] (fun v wr => ∃ A3 k c3, v = .slice A3 k c3 ∧ k ≤ n ∧ (ordN (nds xs) k).length = k ∧ wr.ownsRow w.heap.size 3 1 v k (ivs (ordN (nds xs) k)) ∧ Below w.heap.size w wr) (fun v _ => n - slen v)
  case atStart => exact ⟨some ⟨w.heap.size, 0, none⟩, 0, 0, rfl, by omega, rfl, HOE.out, HBE.out⟩
  case round =>
    obtain ⟨A3, k, c3, rfl, hk, hlen, hown, hb⟩ := hrel
    obtain ⟨wA, hwA⟩ : ∃ x, x = wr := ⟨_, rfl⟩
    subst hwA
    have HOWN := Lib.hid hown
    have HB := Lib.hid hb
    have HLEN := Lib.hid hlen
    have HIN : Hid (∀ (W : World) (hb : Below wA.heap.size wA W) (q : Nat), Calls Try.prog 22 #[.slice A3 k c3, .int .i64 (q : Int)] W fun e w' => Tells (q ∈ ordN (nds xs) k) e ∧ W = w') := fun W hb q => in_any A3 k c3 (ordN (nds xs) k) q (by omega) W (((Reads.of_own hown).below hb).more hb.size)
    obtain ⟨S, hS⟩ : ∃ S, S = nmOf (nds xs) (ordN (nds xs) k) := ⟨_, rfl⟩
    have HS := Lib.hid hS
    clear hown hb hlen hS
    go_wp2
    go_loopw [4, 5] (fun v4 v5 w2 => ∃ i : Nat, i ≤ n ∧ v5 = .int .i64 (i : Int) ∧ AtV (lstN (nds xs) S i) v4 ∧ Below wA.heap.size wA w2) (fun _ v5 _ => n - (intOf v5).toNat)
    case atStart => exact ⟨0, by omega, rfl, .inl ⟨rfl, rfl⟩, Below.refl _ _⟩
    case round =>
      obtain ⟨i, hi, rfl, hat, hb2⟩ := hrel
      have HAT := Lib.hid hat
      have HB2 := Lib.hid hb2
      by_cases hlt : i < n
      · obtain ⟨x, hx⟩ : ∃ x, xs[i]? = some x := ⟨_, List.getElem?_eq_getElem (by rw [HL.out]; exact hlt)⟩
        have HX := Lib.hid hx
        have HXD := Lib.hid (nds_at hx)
        have hmx := List.mem_of_getElem? hx
        have hfx := HF.out x hmx
        have hin := HNS.out.2 x hmx
        have HDL : Hid (x.d.deps.length = x.n) := hin.len
        have HSELF : Hid (i ∈ ordN (nds xs) k ↔ x.d.name ∈ S) := by show _ ↔ _; rw [HS.out]; exact place_nm HND.out HXD.out
        have HDEP : Hid (∀ d ∈ x.d.deps, ∃ q : Nat, tplace ((nds xs).map Nd.name) d = (q : Int) ∧ (q ∈ ordN (nds xs) k ↔ d ∈ S)) := fun d hd => by rw [HS.out]; exact place_dep HND.out (HDI.out _ (List.mem_of_getElem? HXD.out) d hd)
        obtain ⟨⟨nm, sc, ru, ds⟩, xA, xn, xc⟩ := x
        have HNL : Hid (nm.length ≤ maxLen) := hfx.1.1
        have hxn : xn ≤ 1000000 := hfx.2
        have HDS : Hid (Reads w w.heap.size 1 xA xn (ds.map tsv)) := hin
        simp only at HXD HDL HSELF HDEP
        have hi0' : (0 : Int) ≤ (i : Int) := by omega
        have hi1' : (i : Int) < (n : Int) := by omega
        clear hx hmx hfx hin hat hb2
        go_wp2_with (go_at_call 22; refine (HIN.out _ HB2.out i).mono ?_; rintro e w9 ⟨⟨b0, hb0, rfl⟩, rfl⟩; have HB0 : Hid (FreeIs (!b0) (nm ∉ S ∧ ∀ d ∈ ds.take 0, d ∈ S)) := (by show FreeIs _ _; unfold FreeIs; rw [Bool.not_eq_true', ← Bool.not_eq_true, hb0, HSELF.out]; simp); clear hb0)
        go_loopw [6, 7] (fun v6 v7 w3 => ∃ (j : Nat) (b : Bool), j ≤ xn ∧ v7 = .int .i64 (j : Int) ∧ v6 = .bool b ∧ FreeIs b (nm ∉ S ∧ ∀ d ∈ ds.take j, d ∈ S) ∧ Below wA.heap.size wA w3) (fun _ v7 _ => xn - (intOf v7).toNat)
        case atStart => exact ⟨0, _, by omega, rfl, rfl, HB0.out, HB2.out⟩
        case round =>
          obtain ⟨j, b, hj, rfl, rfl, hfr, hb3⟩ := hrel
          have HFR := Lib.hid hfr
          have HB3 := Lib.hid hb3
          have hbw := HB.out.trans (hb3.mono HB.out.size)
          have HBW := Lib.hid hbw
          obtain ⟨ad, rfl, hab, k0, k1, k2, k3⟩ := nodes_cells (HNS.out.below hbw).1 i _ HX.out
          simp only at k0 k1 k2 k3
          by_cases hlt3 : j < xn
          · obtain ⟨s, hs⟩ : ∃ s, ds[j]? = some s := ⟨_, List.getElem?_eq_getElem (by rw [HDL.out]; exact hlt3)⟩
            obtain ⟨ax, sv, rfl, hxb, hsv, hsc⟩ := (HDS.out.below hbw).at_ hlt3
            obtain rfl : sv = tsv s := by rw [List.getElem?_map, hs] at hsv; simpa using hsv.symm
            unfold tsv at hsc
            have HTK : Hid (ds.take (j + 1) = ds.take j ++ [s]) := by show _ = _; rw [List.take_add_one, hs]; rfl
            have HSM := Lib.hid (List.mem_of_getElem? hs)
            have hj0 : (0 : Int) ≤ (j : Int) := by omega
            have hj1 : (j : Int) < (xn : Int) := by omega
            cases b with
            | false =>
              have HF2 : Hid (FreeIs false (nm ∉ S ∧ ∀ d ∈ ds.take (j + 1), d ∈ S)) := by
                show FreeIs _ _
                unfold FreeIs
                refine ⟨fun h => (by cases h), fun h => absurd ⟨h.1, fun d hd => h.2 d ?_⟩ (free_no HFR)⟩
                rw [HTK.out]; exact List.mem_append_left _ hd
              clear hs hsv hfr hb3 hbw
              go_wp2
              exact ⟨⟨j + 1, false, by omega, by go_num, rfl, HF2.out, HB3.out⟩, by simp [intOf]; omega⟩
            | true =>
              obtain ⟨q, hq1, hq2⟩ := HDEP.out s HSM.out
              have HQ2 := Lib.hid hq2
              have HPL := Lib.hid (rplace_any (some ad) n c xs s hn wr ((HNS.out.below hbw).1.more hbw.size))
              rw [hq1] at HPL
              clear hs hsv hfr hb3 hbw hq1 hq2
              go_wp2_with (first
                | (go_at_call 22; refine (HIN.out _ HB3.out q).mono ?_; rintro e w9 ⟨⟨b1, hb1, rfl⟩, rfl⟩; have HB1 : Hid (FreeIs b1 (nm ∉ S ∧ ∀ d ∈ ds.take (j + 1), d ∈ S)) := (by show FreeIs _ _; unfold FreeIs; rw [hb1, HQ2.out, HTK.out]; exact ⟨fun h => ⟨(free_yes HFR).1, fun d hd => (List.mem_append.1 hd).elim ((free_yes HFR).2 d) (fun h2 => by rw [List.mem_singleton.1 h2]; exact h)⟩, fun h => h.2 s (by simp)⟩); clear hb1)
                | (go_at_call 14; refine HPL.out.mono ?_; rintro e w8 ⟨rfl, rfl⟩))
              exact ⟨⟨j + 1, _, by omega, by go_num, rfl, HB1.out, HB3.out⟩, by simp [intOf]; omega⟩
          · obtain rfl : j = xn := by omega
            rw [List.take_of_length_le (by rw [HDL.out]; omega)] at HFR
            cases b with
            | false =>
              have HNR : Hid (¬ Ready S ⟨nm, sc, ru, ds⟩) := fun h => (free_no HFR) h
              have HSK := Lib.hid (lst_skip HXD.out HNR.out)
              clear hfr hb3
              go_wp2
              go_quiet (fail)
              go_wp2
              exact ⟨⟨i + 1, by omega, by go_num, by rw [HSK.out]; exact HAT.out, HB3.out.trans (below_drewN _ _ _)⟩, by simp [intOf]; omega⟩
            | true =>
              have HRD : Hid (Ready S ⟨nm, sc, ru, ds⟩) := (free_yes HFR)
              clear hfr hb3
              rcases HAT.out with ⟨ho, rfl⟩ | ⟨kk, ho, rfl⟩
              · have HFI := Lib.hid (lst_first HXD.out HRD.out ho)
                clear ho
                go_wp2
                go_quiet (fail)
                go_wp2
                exact ⟨⟨i + 1, by omega, by go_num, by rw [HFI.out]; exact .inr ⟨i, rfl, rfl⟩, HB3.out.trans (below_drewN _ _ _)⟩, by simp [intOf]; omega⟩
              · obtain ⟨y, hy, hky, hry, _⟩ := lst_some ho
                have HO := Lib.hid ho
                have hkn : kk < n := by omega
                obtain ⟨yw, hyw⟩ : ∃ yw, xs[kk]? = some yw := ⟨_, List.getElem?_eq_getElem (by rw [HL.out]; exact hkn)⟩
                have hyd : yw.d = y := by have h1 := nds_at hyw; rw [hy] at h1; exact (Option.some.inj h1).symm
                obtain ⟨ad2, e2, _, j0, _⟩ := nodes_cells (HNS.out.below (HB.out.trans (HB3.out.mono HB.out.size))).1 kk yw hyw
                obtain rfl : ad = ad2 := by injection e2
                rw [hyd] at j0
                have hyl : y.name.length ≤ maxLen := by rw [← hyd]; exact (HF.out yw (List.mem_of_getElem? hyw)).1.1
                have HY := Lib.hid hy
                obtain ⟨ynm, ysc, yru, yds⟩ := y
                simp only at j0 hyl
                have HLS := Lib.hid (fun (W : World) => less_any nm ynm HNL.out hyl W)
                unfold rsv at HLS
                have hk0 : (0 : Int) ≤ (kk : Int) := by omega
                have hk1 : (kk : Int) < (n : Int) := by omega
                have hk2 : decide ((kk : Int) < 0) = false := decide_eq_false (by omega)
                by_cases hlt2 : nm < ynm
                · rw [decide_eq_true hlt2] at HLS
                  have HFI := Lib.hid (lst_less HXD.out HRD.out HO.out HY.out hlt2)
                  clear ho hy hky hry hyw hyd e2 hlt2 hyl
                  go_wp2
                  go_quiet ((go_at_call 15; exact Calls.quiet_of (HLS.out _)))
                  go_wp2
                  exact ⟨⟨i + 1, by omega, by go_num, by rw [HFI.out]; exact .inr ⟨i, rfl, rfl⟩, HB3.out.trans (below_drewN _ _ _)⟩, by simp [intOf]; omega⟩
                · rw [decide_eq_false hlt2] at HLS
                  have HKE := Lib.hid (lst_keep HXD.out HO.out HY.out hlt2)
                  clear ho hy hky hry hyw hyd e2 hlt2 hyl
                  go_wp2
                  go_quiet ((go_at_call 15; exact Calls.quiet_of (HLS.out _)))
                  go_wp2
                  exact ⟨⟨i + 1, by omega, by go_num, by rw [HKE.out]; exact .inr ⟨kk, rfl, rfl⟩, HB3.out.trans (below_drewN _ _ _)⟩, by simp [intOf]; omega⟩
      · obtain rfl : i = n := by omega
        have HBW := Lib.hid (HB.out.trans (hb2.mono HB.out.size))
        have HO2 := Lib.hid (own_below HOWN.out (hb2))
        rcases HAT.out with ⟨ho, rfl⟩ | ⟨kk, ho, rfl⟩
        · have HFU : Hid (ordN (nds xs) k = ord (nds xs)) := by
            show _ = _
            exact ord_full (by rw [HLD.out]; exact hk) (by rw [HLD.out, ← HS.out]; exact ho)
          clear ho hat hb2
          go_wp2
          go_ret
          have he : (ord (nds xs)).length = k := by rw [← HFU.out]; exact HLEN.out
          rw [he, ← HFU.out]
          exact ⟨⟨A3, c3, rfl, HO2.out⟩, HBW.out⟩
        · have ho2 : lstN (nds xs) (nmOf (nds xs) (ordN (nds xs) k)) (nds xs).length = some kk := by rw [HLD.out, ← HS.out]; exact ho
          have HST : Hid (ordN (nds xs) (k + 1) = ordN (nds xs) k ++ [kk]) := ord_step ho2
          have HKN : Hid (k < i) := by
            have := ord_end HLEN.out ho2
            rw [HLD.out] at this
            exact this
          have hk2 : decide ((kk : Int) < 0) = false := decide_eq_false (by omega)
          clear ho ho2 hat hb2
          go_wp2_with (at_builtin; refine wpList_append_many _ rfl (.tmp 66) (.tmp 68) 37 rfl w.heap.size 3 ii _ 1 8 Try.underlying37 hi0 hz0 hz1 hz2 rfl (by decide) (.slice A3 k c3) k _ rfl (HO2.out.alloc _) (some ⟨wr.heap.size, 0, none⟩) 1 1 (wr.heap.size + 1) [.int .i64 (kk : Int)] rfl (by intro h; cases h) (reads_one_row wr 3 _) (by intro u hu; simp at hu; subst hu; rfl) (by unfold maxLen; omega) (by omega) (by have := HBW.out.size; simp; omega) ?_; intro v5 w5 ho5 hg5; have HO5 := Lib.hid ho5; have HG5 := Lib.hid hg5; clear ho5 hg5)
          obtain ⟨A5, c5, rfl, _⟩ := own_slice HO5.out
          have hal : Below wr.heap.size wr (wr.alloc (.cells #[.int .i64 (kk : Int)] 3)) := (Below.refl _ wr).alloc (Nat.le_refl _) _
          have hb5 := ((HBW.out.trans (hal.mono HBW.out.size)).grown HG5.out (by have := HBW.out.size; simp; omega) (fun j hj => own_block HO2.out _ hj))
          have hlen2 : (ordN (nds xs) (k + 1)).length = k + 1 := by rw [HST.out, List.length_append, HLEN.out]; rfl
          have ho6 : w5.ownsRow w.heap.size 3 1 (.slice A5 (k + 1) c5) (k + 1) (ivs (ordN (nds xs) (k + 1))) := by rw [HST.out, ivs_app]; exact HO5.out
          exact ⟨⟨A5, k + 1, c5, rfl, HKN.out, hlen2, ho6, hb5⟩, by have := HKN.out; simp only [slen]; omega⟩

end Go.Proofs.Ytcfmpajdhbcimaa
