/- Texts of one proof, one behind the other. -/
import Derived.Test.YtacjiojfjkonkaaXk
import Derived.Test.YtacjiojfjkonkaaWr6
import Derived.Laws.StructEq
import Derived.BigQuiet
import Derived.Deep.QuietTactic
import Derived.Test.YtacjiojfjkonkaaWr0
import Derived.Test.YtacjiojfjkonkaaRn00
import Derived.Test.YtacjiojfjkonkaaXd
import Derived.Test.YtacjiojfjkonkaaWr2
import Derived.Test.YtacjiojfjkonkaaDm
import Derived.Test.YtacjiojfjkonkaaWt
import Derived.Test.YtacjiojfjkonkaaXu
import Derived.Test.YtacjiojfjkonkaaH3
import Derived.ProofKit
import Derived.OpenShut
import Derived.Carry
import Derived.Test.YtacjiojfjkonkaaRows

/- The document's Check. -/
namespace Go.Proofs.Ytacjiojfjkonkaa
open Go.RowKit Go.Sort

theorem nws_take {xs : List Nw} {i j : Nat} {u : Value} (h : (nws (xs.take i))[j]? = some u) : (nws xs)[j]? = some u := by
  have e : nws xs = nws (xs.take i) ++ nws (xs.drop i) := by rw [← nws_app, List.take_append_drop]
  rw [e, List.getElem?_append_left (List.getElem?_eq_some_iff.1 h).1]
  exact h
theorem nodes_take {w : World} {B n : Nat} {A : Option Addr} {xs : List Nw} (h : Reads w B 4 A n (nws xs)) {i : Nat} (hi : i ≤ n) : Reads w B 4 A i (nws (xs.take i)) := by
  have h1 := h.1
  rw [nws_len] at h1
  refine ⟨by rw [nws_len, List.length_take]; omega, fun hn => ?_⟩
  obtain ⟨ad, rfl, hb, hc⟩ := h.2 (by omega)
  exact ⟨ad, rfl, hb, fun j u hu => hc j u (nws_take hu)⟩
theorem nds_take (xs : List Nw) (i : Nat) : nds (xs.take i) = (nds xs).take i := List.map_take ..
theorem tplace_pos {l : List (List UInt8)} {s : List UInt8} (h : s ∈ l) : ∃ k : Nat, tplace l s = (k : Int) := ⟨_, if_pos h⟩

set_option maxRecDepth 100000 in
set_option maxHeartbeats 8000000 in
theorem rcheck_any (A : Option Addr) (n c : Nat) (xs : List Nw) (hn : n ≤ 1000000) (hnc : n ≤ c) (hok : NOk xs) (hxc : ∀ x ∈ xs, x.n ≤ x.c) (w : World) (h : Nodes w w.heap.size A n xs) :
    Calls Try.prog 21 #[.slice A n c] w fun e w' => e = .returned (.int .i64 (chk (nds xs))) ∧ Below w.heap.size w w' := by
  have HL : Hid (xs.length = n) := h.len
  have HLD : Hid ((nds xs).length = n) := by show _ = _; rw [nds_len]; exact h.len
  have HNS := Lib.hid h
  have HF := Lib.hid hok
  have HXC := Lib.hid hxc
  have HNC := Lib.hid hnc
  have HCK : Hid (chk (nds xs) = if 64 < n then 5 else if errN (nds xs) n ≠ 0 then errN (nds xs) n else if ¬ depsIn (nds xs) then 6 else if (ord (nds xs)).length < n then 9 else 0) := by
    show chk _ = _
    unfold chk
    rw [HLD.out]
  have HTO : Hid (∀ i, i ≤ n → errN (nds xs) i ≠ 0 → n ≤ 64 → chk (nds xs) = errN (nds xs) i) := fun i hi h1 h64 => by
    have h2 := err_to h1 (by rw [HLD.out]; exact hi)
    rw [HLD.out] at h2
    rw [HCK.out, if_neg (by omega), if_pos (by rw [h2]; exact h1), h2]
  clear h hok hxc hnc
  by_cases h64 : 64 < n
  · have d64 : decide ((n : Int) > 64) = true := decide_eq_true (by omega)
    have HCE : Hid (chk (nds xs) = 5) := HCK.out.trans (if_pos h64)
    go_enter Try.func21, Try.ntmps21
    go_wp2
    go_ret
    exact ⟨by rw [HCE.out]; rfl, Below.refl _ _⟩
  have d64 : decide ((n : Int) > 64) = false := decide_eq_false (by omega)
  have h64n : n ≤ 64 := by omega
  clear h64
  go_enter Try.func21, Try.ntmps21
  go_wp2
  go_loopw [3] (fun idx wr => ∃ i : Nat, i ≤ n ∧ idx = .int .i64 (i : Int) ∧ errN (nds xs) i = 0 ∧ Below w.heap.size w wr) (fun idx _ => n - (intOf idx).toNat)
  case atStart => exact ⟨0, by omega, rfl, rfl, Below.refl _ _⟩
  case round =>
    obtain ⟨i, hi, rfl, her, hb⟩ := hrel
    have HB := Lib.hid hb
    have HER := Lib.hid her
    by_cases hlt : i < n
    · obtain ⟨x, hx⟩ : ∃ x, xs[i]? = some x := ⟨_, List.getElem?_eq_getElem (by rw [HL.out]; exact hlt)⟩
      have hnr := (HNS.out.below hb)
      obtain ⟨ad, rfl, hab, k0, k1, k2, k3⟩ := nodes_cells hnr.1 i x hx
      have hmx := List.mem_of_getElem? hx
      have hfx := HF.out x hmx
      have HES := Lib.hid (err_step (nds_at hx) her)
      have HONE : Hid (∀ q : Nat, Calls Try.prog 31 #[x.val] (wr.drewN q) fun e w' => e = .returned (.int .i64 (aloneE x.d)) ∧ Below (wr.drewN q).heap.size (wr.drewN q) w') := fun q => rone_any x hfx.2 (HXC.out x hmx) (wr.drewN q) (Reads.more (Reads.drewN (hnr.2 x hmx) q) hb.size)
      have HPL : Hid (∀ q : Nat, Calls Try.prog 30 #[.slice (some ad) i c, .string (tx x.d.name)] (wr.drewN q) fun e w' => e = .returned (.int .i64 (tplace (((nds xs).take i).map Nd.name) x.d.name)) ∧ w' = wr.drewN q) := fun q => by
        rw [← nds_take]
        exact Calls.mono (rplace_any (some ad) i c (xs.take i) x.d.name (by omega) (wr.drewN q) ((Reads.drewN (nodes_take hnr.1 (by omega)) q).more hb.size)) (fun e w' h => ⟨h.1, h.2.symm⟩)
      have hsl : ∀ W : World, (Instr.sliceAt 22 (.slice (some ad) n c) none (some (.int .i64 (i : Int))) none).run Try.prog W = .ok (.slice (some ad) i c) W := fun W => by
        have e2 : (0 : Int) ≤ (i : Int) := by omega
        have e3 : (i : Int) ≤ (c : Int) := by have := HNC.out; omega
        go_simp
      have hi0 : (0 : Int) ≤ (i : Int) := by omega
      have hi1 : (i : Int) < (n : Int) := by omega
      have hi2 : (i : Int) ≤ (c : Int) := by have := HNC.out; omega
      obtain ⟨⟨nm, sc, ru, ds⟩, xA, xn, xc⟩ := x
      unfold Nw.val at HONE
      simp only at k0 k1 k2 k3 HONE HPL HES
      by_cases hin : nm ∈ ((nds xs).take i).map Nd.name
      · have HE1 : Hid (chk (nds xs) = 1) := by
          have h1 : errN (nds xs) (i + 1) = 1 := HES.out.trans (if_pos hin)
          exact (HTO.out (i + 1) (by omega) (by rw [h1]; decide) h64n).trans h1
        obtain ⟨k, hk⟩ := tplace_pos hin
        rw [hk] at HPL
        have hge : decide ((k : Int) ≥ 0) = true := decide_eq_true (by omega)
        clear hx hnr hmx hfx her hb hin hk
        go_wp2
        go_quiet ((go_at_call 30; exact Calls.quiet_of_same (HPL.out _)))
        go_wp2
        go_ret
        exact ⟨by rw [HE1.out]; rfl, HB.out.trans (below_drewN _ _ _)⟩
      · have ht : tplace (((nds xs).take i).map Nd.name) nm = -1 := if_neg hin
        rw [ht] at HPL
        have HE1 : Hid (errN (nds xs) (i + 1) = aloneE ⟨nm, sc, ru, ds⟩) := HES.out.trans (if_neg hin)
        obtain ⟨z, hz⟩ : ∃ z, z = aloneE ⟨nm, sc, ru, ds⟩ := ⟨_, rfl⟩
        rw [← hz] at HE1 HONE
        clear hx hnr hmx hfx her hb hin ht hz
        by_cases h0 : z = 0
        · subst h0
          go_wp2
          go_quiet ((go_at_call 30; exact Calls.quiet_of_same (HPL.out _)))
          go_wp2_with (go_at_call 31; refine (HONE.out _).mono ?_; rintro e w3 ⟨rfl, hb3⟩; have HB3 := Lib.hid ((HB.out.trans (below_drewN _ _ nq)).trans (hb3.mono (HB.out.trans (below_drewN _ _ nq)).size)); clear hb3)
          exact ⟨⟨i + 1, by omega, by go_num, HE1.out, HB3.out⟩, by simp [intOf]; omega⟩
        · have hne : (z != 0) = true := by rw [bne_iff_ne]; exact h0
          have HCE : Hid (chk (nds xs) = z) := (HTO.out (i + 1) (by omega) (by rw [HE1.out]; exact h0) h64n).trans HE1.out
          clear h0
          go_wp2
          go_quiet ((go_at_call 30; exact Calls.quiet_of_same (HPL.out _)))
          go_wp2_with (go_at_call 31; refine (HONE.out _).mono ?_; rintro e w3 ⟨rfl, hb3⟩; have HB3 := Lib.hid ((HB.out.trans (below_drewN _ _ nq)).trans (hb3.mono (HB.out.trans (below_drewN _ _ nq)).size)); clear hb3)
          go_ret
          exact ⟨by rw [HCE.out]; rfl, HB3.out⟩
    · obtain rfl : n = i := by omega
      have HND : Hid (((nds xs).map Nd.name).Nodup) := by
        have := (err_ok (l := nds xs) (i := n) (by rw [HLD.out]; omega)).1 her
        rw [List.take_of_length_le (by rw [HLD.out]; omega)] at this
        exact this.1
      have HC2 : Hid (chk (nds xs) = if ¬ depsIn (nds xs) then 6 else if (ord (nds xs)).length < n then 9 else 0) := HCK.out.trans (by rw [if_neg (by omega), if_neg (by simpa using her)])
      clear her hb hi hlt
      go_wp2
      go_loopw [5] (fun idx wr => ∃ i : Nat, i ≤ n ∧ idx = .int .i64 (i : Int) ∧ (∀ y ∈ (nds xs).take i, ∀ d ∈ y.deps, d ∈ (nds xs).map Nd.name) ∧ Below w.heap.size w wr) (fun idx _ => n - (intOf idx).toNat)
      case atStart => exact ⟨0, by omega, rfl, by simp, HB.out⟩
      case round =>
        obtain ⟨i, hi, rfl, hall, hb2⟩ := hrel
        have HALL := Lib.hid hall
        have HB2 := Lib.hid hb2
        by_cases hlt : i < n
        · obtain ⟨x, hx⟩ : ∃ x, xs[i]? = some x := ⟨_, List.getElem?_eq_getElem (by rw [HL.out]; exact hlt)⟩
          have HX := Lib.hid hx
          have HXD := Lib.hid (nds_at hx)
          have hmx := List.mem_of_getElem? hx
          have hfx := HF.out x hmx
          have hin := HNS.out.2 x hmx
          have HDL : Hid (x.d.deps.length = x.n) := hin.len
          obtain ⟨⟨nm, sc, ru, ds⟩, xA, xn, xc⟩ := x
          have hxn : xn ≤ 1000000 := hfx.2
          have HDS : Hid (Reads w w.heap.size 1 xA xn (ds.map tsv)) := hin
          simp only at HXD HDL
          have hi0 : (0 : Int) ≤ (i : Int) := by omega
          have hi1 : (i : Int) < (n : Int) := by omega
          clear hx hmx hfx hin hall hb2
          go_wp2
          go_loopw [6] (fun v7 w3 => ∃ (j : Nat), j ≤ xn ∧ v7 = .int .i64 (j : Int) ∧ (∀ d ∈ ds.take j, d ∈ (nds xs).map Nd.name) ∧ Below w.heap.size w w3) (fun v7 _ => xn - (intOf v7).toNat)
          case atStart => exact ⟨0, by omega, rfl, by simp, HB2.out⟩
          case round =>
            obtain ⟨j, hj, rfl, hdd, hb3⟩ := hrel
            have HDD := Lib.hid hdd
            have HB3 := Lib.hid hb3
            obtain ⟨ad, rfl, hab, k0, k1, k2, k3⟩ := nodes_cells (HNS.out.below hb3).1 i _ HX.out
            simp only at k0 k1 k2 k3
            by_cases hlt3 : j < xn
            · obtain ⟨s, hs⟩ : ∃ s, ds[j]? = some s := ⟨_, List.getElem?_eq_getElem (by rw [HDL.out]; exact hlt3)⟩
              obtain ⟨ax, sv, rfl, hxb, hsv, hsc⟩ := (HDS.out.below hb3).at_ hlt3
              obtain rfl : sv = tsv s := by rw [List.getElem?_map, hs] at hsv; simpa using hsv.symm
              unfold tsv at hsc
              have HTK : Hid (ds.take (j + 1) = ds.take j ++ [s]) := by show _ = _; rw [List.take_add_one, hs]; rfl
              have HSM := Lib.hid (List.mem_of_getElem? hs)
              have hj0 : (0 : Int) ≤ (j : Int) := by omega
              have hj1 : (j : Int) < (xn : Int) := by omega
              have HPL := Lib.hid (rplace_any (some ad) n c xs s hn wr ((HNS.out.below hb3).1.more hb3.size))
              by_cases hin : s ∈ (nds xs).map Nd.name
              · obtain ⟨q, hq⟩ := tplace_pos hin
                rw [hq] at HPL
                have hq0 : decide ((q : Int) < 0) = false := decide_eq_false (by omega)
                have HD2 : Hid (∀ d ∈ ds.take (j + 1), d ∈ (nds xs).map Nd.name) := fun d hd => by
                  rw [HTK.out] at hd
                  rcases List.mem_append.1 hd with hd | hd
                  · exact HDD.out d hd
                  · rw [List.mem_singleton.1 hd]; exact hin
                clear hs hsv hdd hb3 hin hq
                go_wp2_with (go_at_call 30; refine HPL.out.mono ?_; rintro e w8 ⟨rfl, rfl⟩)
                exact ⟨⟨j + 1, by omega, by go_num, HD2.out, HB3.out⟩, by simp [intOf]; omega⟩
              · have ht : tplace ((nds xs).map Nd.name) s = -1 := if_neg hin
                rw [ht] at HPL
                have HCE : Hid (chk (nds xs) = 6) := HC2.out.trans (if_pos (fun h => hin (h _ (List.mem_of_getElem? HXD.out) s HSM.out)))
                clear hs hsv hdd hb3 hin ht
                go_wp2_with (go_at_call 30; refine HPL.out.mono ?_; rintro e w8 ⟨rfl, rfl⟩)
                go_ret
                exact ⟨by rw [HCE.out]; rfl, HB3.out⟩
            · obtain rfl : xn = j := by omega
              rw [List.take_of_length_le (by rw [HDL.out]; omega)] at HDD
              have HA2 := Lib.hid (in_step HXD.out HALL.out HDD.out)
              clear hdd hb3
              go_wp2
              exact ⟨⟨i + 1, by omega, by go_num, HA2.out, HB3.out⟩, by simp [intOf]; omega⟩
        · obtain rfl : n = i := by omega
          have HDI : Hid (depsIn (nds xs)) := by
            show depsIn _
            have := HALL.out
            rw [List.take_of_length_le (by rw [HLD.out]; omega)] at this
            exact this
          have HC3 : Hid (chk (nds xs) = if (ord (nds xs)).length < n then 9 else 0) := HC2.out.trans (if_neg (by simpa using HDI.out))
          have HROW := Lib.hid (rrow_any A n c xs hn HF.out HND.out HDI.out wr ((HNS.out.below hb2).more hb2.size))
          obtain ⟨m, hm⟩ : ∃ m, m = (ord (nds xs)).length := ⟨_, rfl⟩
          rw [← hm] at HC3
          have HM := Lib.hid hm
          clear hm hb2 hall hi hlt
          by_cases hmi : m < n
          · have HCE : Hid (chk (nds xs) = 9) := HC3.out.trans (if_pos hmi)
            have d1 : decide ((m : Int) < (n : Int)) = true := decide_eq_true (by omega)
            go_wp2_with (go_at_call 22; refine HROW.out.mono ?_; rintro e w5 ⟨⟨A5, c5, rfl, ho⟩, hb5⟩; rw [← HM.out]; have HB5 := Lib.hid (HB2.out.trans (hb5.mono HB2.out.size)); clear hb5 ho)
            go_ret
            exact ⟨by rw [HCE.out]; rfl, HB5.out⟩
          · have HCE : Hid (chk (nds xs) = 0) := HC3.out.trans (if_neg hmi)
            have d1 : decide ((m : Int) < (n : Int)) = false := decide_eq_false (by omega)
            go_wp2_with (go_at_call 22; refine HROW.out.mono ?_; rintro e w5 ⟨⟨A5, c5, rfl, ho⟩, hb5⟩; rw [← HM.out]; have HB5 := Lib.hid (HB2.out.trans (hb5.mono HB2.out.size)); clear hb5 ho)
            go_ret
            exact ⟨by rw [HCE.out]; rfl, HB5.out⟩

end Go.Proofs.Ytacjiojfjkonkaa

/- rule.Clean where something is wrong; the document's Clean where something is. -/
namespace Go.Proofs.Ytacjiojfjkonkaa
open Go.RowKit Go.Sort

set_option maxRecDepth 100000 in
set_option maxHeartbeats 1000000 in
theorem clean_bad (A : Option Addr) (n c : Nat) (xs : List Nw) (hn : n ≤ 1000000) (hok : NOk xs) (hc0 : chk (nds xs) ≠ 0) (g : Value) (w : World) (h : Nodes w w.heap.size A n xs) :
    Calls Try.prog 9 #[.slice A n c, g] w fun e w' => (∃ z : Int, z = chk (nds xs) ∧ e = .returned (.tuple #[.slice none 0 0, .int .i64 z])) ∧ Below w.heap.size w w' := by
  have HOR : Hid (Calls Try.prog 18 #[.slice A n c] w fun e w' => (∃ z : Int, (z = chk (nds xs) ∧ z ≠ 0) ∧ e = .returned (.tuple #[.slice none 0 0, .int .i64 z])) ∧ Below w.heap.size w w') :=
    Calls.mono (order_any A n c xs hn hok w h) (fun e w' ⟨⟨v, he, hv⟩, hb2⟩ => by
      rcases hv with ⟨_, h1⟩ | ⟨h0, _⟩
      · subst h1
        exact ⟨⟨_, ⟨rfl, hc0⟩, he⟩, hb2⟩
      · exact absurd h0 hc0)
  clear h hok hc0
  go_enter Try.func9, Try.ntmps9
  go_wp2_with (go_at_call 18; refine HOR.out.mono ?_; rintro e w1 ⟨⟨z, hz, rfl⟩, hb1⟩; have HZ := Lib.hid hz; have hne : (z != 0) = true := (by rw [bne_iff_ne]; exact hz.2); have HB1 := Lib.hid hb1; clear hb1 hz)
  go_ret2
  exact ⟨⟨z, HZ.out.1, rfl⟩, HB1.out⟩

set_option maxRecDepth 100000 in
set_option maxHeartbeats 1000000 in
theorem rclean_bad (A : Option Addr) (n c : Nat) (xs : List Nw) (hn : n ≤ 1000000) (hnc : n ≤ c) (hok : NOk xs) (hxc : ∀ x ∈ xs, x.n ≤ x.c) (hc0 : chk (nds xs) ≠ 0) (g : Value) (w : World) (h : Nodes w w.heap.size A n xs) :
    Calls Try.prog 10 #[.slice A n c, g] w fun e w' => (∃ (z : Int) (A5 : Option Addr), z = chk (nds xs) ∧ e = .returned (.tuple #[.slice A5 0 0, .int .i64 z])) ∧ Below w.heap.size w w' := by
  have HCH := Lib.hid (fun (W : World) (hb : Below w.heap.size w W) => rcheck_any A n c xs hn hnc hok hxc W ((h.below hb).more hb.size))
  have HB0 := Lib.hid ((Below.refl w.heap.size w).alloc (Nat.le_refl _) (.cells #[] 44))
  obtain ⟨z, hz⟩ : ∃ z, z = chk (nds xs) := ⟨_, rfl⟩
  rw [← hz] at HCH hc0
  have HZ := Lib.hid hz
  have hne : (z != 0) = true := by rw [bne_iff_ne]; exact hc0
  clear h hok hxc hc0 hz
  go_enter Try.func10, Try.ntmps10
  go_wp2_with (go_at_call 21; refine (HCH.out _ HB0.out).mono ?_; rintro e w1 ⟨rfl, hb1⟩; have HB1 := Lib.hid (HB0.out.trans (hb1.mono HB0.out.size)); clear hb1)
  go_ret2
  exact ⟨⟨z, _, HZ.out, rfl⟩, HB1.out⟩

end Go.Proofs.Ytacjiojfjkonkaa

/- The document's Clean where nothing is wrong. -/
namespace Go.Proofs.Ytacjiojfjkonkaa
open Go.RowKit Go.Sort

set_option maxRecDepth 100000 in
set_option maxHeartbeats 4000000 in
theorem rclean_ok (A : Option Addr) (n c : Nat) (xs : List Nw) (hn : n ≤ 1000) (hnc : n ≤ c) (hok : NOk xs) (hxc : ∀ x ∈ xs, x.n ≤ x.c) (hru : ∀ x ∈ xs, RuleOk x.d ∧ x.n ≤ 1000) (hc0 : chk (nds xs) = 0) (G : Option Addr) (gn gc : Nat) (gs : List Stp) (hgn : gn ≤ 1000000) (w : World) (h : Nodes w w.heap.size A n xs) (hg : Steps w w.heap.size G gn gs) :
    Calls Try.prog 10 #[.slice A n c, .slice G gn gc] w fun e w' => (∃ A5 c5, e = .returned (.tuple #[.slice A5 n c5, .int .i64 0]) ∧ w'.ownsRow w.heap.size 44 3 (.slice A5 n c5) n (sts (clN (nds xs) gs (ord (nds xs)) n))) ∧ Below w.heap.size w w' := by
  have HL : Hid (xs.length = n) := h.len
  have HLD : Hid ((nds xs).length = n) := by show _ = _; rw [nds_len]; exact h.len
  have HNS := Lib.hid h
  have HGS := Lib.hid hg
  have HF := Lib.hid hok
  have HRU := Lib.hid hru
  obtain ⟨_, hnd, _, hdi, hol⟩ := chk_ok.1 hc0
  have HLO : Hid ((ord (nds xs)).length = n) := hol.trans HLD.out
  have HCH := Lib.hid (fun (W : World) (hb : Below w.heap.size w W) => rcheck_any A n c xs (by omega) hnc hok hxc W ((h.below hb).more hb.size))
  have HRW := Lib.hid (fun (W : World) (hb : Below w.heap.size w W) => rrow_any A n c xs (by omega) hok hnd hdi W ((h.below hb).more hb.size))
  rw [hc0] at HCH
  rw [HLO.out] at HRW
  obtain ⟨ii, hi0, hz0, hz1, hz2⟩ := info_parts info_step
  obtain ⟨iq, hj0, hy0, hy1, hy2⟩ := info_parts info_q
  have HB0 := Lib.hid ((Below.refl w.heap.size w).alloc (Nat.le_refl _) (.cells #[] 44))
  have HOE : Hid ((w.alloc (.cells #[] 44)).ownsRow w.heap.size 44 3 (.slice (some ⟨w.heap.size, 0, none⟩) 0 0) 0 []) := ⟨rfl, .inr ⟨w.heap.size, 0, #[], rfl, Nat.le_refl _, one_new w _, Nat.le_refl _, by unfold maxLen; omega, rfl, rfl⟩⟩
  clear h hg hok hxc hru hc0 hnd hdi hol
  go_enter Try.func10, Try.ntmps10
  go_wp2_with (first
    | (go_at_call 22; refine (HRW.out _ HB1.out).mono ?_; rintro e w2 ⟨⟨A6, c6, rfl, ho2⟩, hb2⟩; have HI2 := Lib.hid (own_less ho2 HB1.out.size); have HB2 := Lib.hid (HB1.out.trans (hb2.mono HB1.out.size)); have HOE2 := Lib.hid (own_below HOE1.out hb2); clear hb2 ho2)
    | (go_at_call 21; refine (HCH.out _ HB0.out).mono ?_; rintro e w1 ⟨rfl, hb1⟩; have HB1 := Lib.hid (HB0.out.trans (hb1.mono HB0.out.size)); have HOE1 := Lib.hid (own_below HOE.out hb1); clear hb1))
  go_loopw [9, 6] (fun idx v wr => ∃ (i : Nat) (A7 : Option Addr) (c7 : Nat), i ≤ n ∧ idx = .int .i64 (i : Int) ∧ v = .slice A7 i c7 ∧ wr.ownsRow w.heap.size 44 3 v i (sts (clN (nds xs) gs (ord (nds xs)) i)) ∧ wr.ownsRow w.heap.size 3 1 (.slice A6 n c6) n (ivs (ord (nds xs))) ∧ Below w.heap.size w wr) (fun idx _ _ => n - (intOf idx).toNat)
  case atStart => exact ⟨0, _, 0, by omega, rfl, rfl, HOE2.out, HI2.out, HB2.out⟩
  case round =>
    obtain ⟨i, A7, c7, hi, rfl, rfl, hown, hoi, hb⟩ := hrel
    have HOWN := Lib.hid hown
    have HOI := Lib.hid hoi
    have HB := Lib.hid hb
    by_cases hlt : i < n
    · obtain ⟨j1, hj1⟩ : ∃ j, (ord (nds xs))[i]? = some j := ⟨_, List.getElem?_eq_getElem (by rw [HLO.out]; exact hlt)⟩
      have hj1n : j1 < n := by rw [← HLD.out]; exact (ord_good (nds xs) _).1 j1 (List.mem_of_getElem? hj1)
      obtain ⟨x, hx⟩ : ∃ x, xs[j1]? = some x := ⟨_, List.getElem?_eq_getElem (by rw [HL.out]; exact hj1n)⟩
      have hmx := List.mem_of_getElem? hx
      obtain ⟨ad, rfl, hab, k0, k1, k2, k3⟩ := nodes_cells ((HNS.out.below hb).1) j1 x hx
      obtain ⟨a6, u6, rfl, _, hu6, hc6⟩ := (Reads.of_own hoi).at_ hlt
      obtain rfl : u6 = .int .i64 (j1 : Int) := by unfold ivs at hu6; rw [List.getElem?_map, hj1] at hu6; simpa using hu6.symm
      have HCL := Lib.hid (cl_step (g := gs) hj1 (nds_at hx))
      have HRX := Lib.hid (HRU.out x hmx)
      have HFX := Lib.hid (HF.out x hmx)
      obtain ⟨⟨nm, sc, ru, ds⟩, xA, xn, xc⟩ := x
      simp only at k0 k1 k2 k3 HCL HRX HFX
      have hj0' : (0 : Int) ≤ (i : Int) := by omega
      have hj2' : (i : Int) < (n : Int) := by omega
      have hj3' : (0 : Int) ≤ (j1 : Int) := by omega
      have hj4' : (j1 : Int) < (n : Int) := by omega
      cases sc with
      | true =>
        have HNEW := Lib.hid (one_new wr (.cells #[.string (tx nm), .bool true, .int .u64 ru, .slice xA xn xc] 37))
        have p0 := at_cell (i := 0) HNEW.out rfl
        have p1 := at_cell (i := 1) HNEW.out rfl
        have hal0 : Below wr.heap.size wr (wr.alloc (.cells #[.string (tx nm), .bool true, .int .u64 ru, .slice xA xn xc] 37)) := (Below.refl _ wr).alloc (Nat.le_refl _) _
        have HOW := Lib.hid (own_below HOWN.out hal0)
        have HOJ := Lib.hid (own_below HOI.out hal0)
        have HBV := Lib.hid (HB.out.trans (hal0.mono HB.out.size))
        have HGV := Lib.hid (rgiven_any G gn gc gs nm hgn (wr.alloc (.cells #[.string (tx nm), .bool true, .int .u64 ru, .slice xA xn xc] 37)) ((HGS.out.below HBV.out).more HBV.out.size))
        obtain ⟨z, hz⟩ : ∃ z : Int, qv (givN gs nm gn) = .int .u64 z := ⟨_, rfl⟩
        have HZ := Lib.hid hz
        rw [hz] at HGV
        rw [show stepOf gs (clN (nds xs) gs (ord (nds xs)) i) ⟨nm, true, ru, ds⟩ = ⟨nm, false, givN gs nm gn⟩ by unfold stepOf; rw [if_pos rfl, HGS.out.len]] at HCL
        clear hz hal0
        clear hx hmx hu6 hown hoi hb hj1 hj1n
        go_wp2_with (first
          | (at_builtin; refine wpList_append_many _ rfl (.tmp 64) (.tmp 72) 23 rfl w.heap.size 44 ii _ 3 32 Try.underlying23 hi0 hz0 hz1 hz2 rfl (by decide) (.slice A7 i c7) i _ rfl (HOW.out.alloc _) (some ⟨w3.heap.size, 0, none⟩) 1 1 (w3.heap.size + 1) [.string (tx nm), .bool false, .int .u64 z] rfl (by intro h; cases h) (by have h9 := reads_step w3 ⟨nm, false, givN gs nm gn⟩; unfold Stp.cells at h9; simp only [HZ.out] at h9; exact h9) (by intro u hu; simp at hu; rcases hu with rfl | rfl | rfl <;> rfl) (by unfold maxLen; omega) (by omega) (by have := HBV.out.size; simp; omega) ?_; intro v5 w5 ho5 hg5; have HO5 := Lib.hid ho5; have HG5 := Lib.hid hg5; clear ho5 hg5)
          | (go_at_call 15; refine HGV.out.mono ?_; rintro e w3 ⟨rfl, hw3⟩; rw [hw3] at HOW HOJ HBV HNEW; have p0 := at_cell (i := 0) HNEW.out rfl; have p1 := at_cell (i := 1) HNEW.out rfl; clear hw3))
        obtain ⟨A9, c9, rfl, _⟩ := own_slice HO5.out
        have hal : Below w3.heap.size w3 (w3.alloc (.cells #[.string (tx nm), .bool false, .int .u64 z] 44)) := (Below.refl _ w3).alloc (Nat.le_refl _) _
        have hst : sts (clN (nds xs) gs (ord (nds xs)) (i + 1)) = sts (clN (nds xs) gs (ord (nds xs)) i) ++ [.string (tx nm), .bool false, .int .u64 z] := by
          rw [HCL.out, sts_app]
          show _ ++ ([Value.string (tx nm), .bool false, qv (givN gs nm gn)] ++ []) = _
          rw [HZ.out]
          rfl
        have ho6 : w5.ownsRow w.heap.size 44 3 (.slice A9 (i + 1) c9) (i + 1) (sts (clN (nds xs) gs (ord (nds xs)) (i + 1))) := by rw [hst]; exact HO5.out
        have hap := own_apart HOJ.out HOW.out (by decide)
        have hoi : w5.ownsRow w.heap.size 3 1 (.slice (some a6) n c6) n (ivs (ord (nds xs))) := (own_below HOJ.out hal).kept HG5.out (by
          cases hq : (Value.slice (some a6) n c6).ownBlock with
          | none => exact .inl rfl
          | some g => exact .inr (fun e => hap g hq e.symm))
        have hb5 := ((HBV.out.trans (hal.mono HBV.out.size)).grown HG5.out (by have := HBV.out.size; have := hal.size; omega) (fun j hj => own_block HOW.out j hj))
        exact ⟨⟨i + 1, A9, c9, by omega, by go_num, rfl, ho6, hoi, hb5⟩, by simp [intOf]; omega⟩
      | false =>
        obtain ⟨wo, hwo⟩ : ∃ x, x = wr := ⟨_, rfl⟩
        subst hwo
        have HNEW := Lib.hid (one_new wo (.cells #[.string (tx nm), .bool false, .int .u64 ru, .slice xA xn xc] 37))
        have p1 := at_cell (i := 1) HNEW.out rfl
        have hal0 : Below wo.heap.size wo (wo.alloc (.cells #[.string (tx nm), .bool false, .int .u64 ru, .slice xA xn xc] 37)) := (Below.refl _ wo).alloc (Nat.le_refl _) _
        have hsz : (wo.alloc (.cells #[.string (tx nm), .bool false, .int .u64 ru, .slice xA xn xc] 37)).heap.size = wo.heap.size + 1 := by simp
        have HSZ := Lib.hid hsz
        have HBV0 := Lib.hid (HB.out.trans (hal0.mono HB.out.size))
        have hds : Reads wo wo.heap.size 1 xA xn (ds.map tsv) := Reads.more (Reads.below (HNS.out.2 _ hmx) HB.out) HB.out.size
        have HDS := Lib.hid (hds.below hal0)
        have HDL : Hid (ds.length = xn) := by show _ = _; have := hds.1; simpa using this
        have hout : Steps wo wo.heap.size A7 i (clN (nds xs) gs (ord (nds xs)) i) := Reads.of_own hown
        have HOL : Hid ((clN (nds xs) gs (ord (nds xs)) i).length = i) := hout.len
        have HOUT := Lib.hid (hout.below hal0)
        have HOWA := Lib.hid (own_below HOWN.out hal0)
        have HOJA := Lib.hid (own_below HOI.out hal0)
        have hem := own_empty (wo.alloc (.cells #[.string (tx nm), .bool false, .int .u64 ru, .slice xA xn xc] 37)) 34
        rw [hsz] at hem
        have HEM := Lib.hid hem
        have HEB := Lib.hid ((Below.refl (wo.heap.size + 1) (wo.alloc (.cells #[.string (tx nm), .bool false, .int .u64 ru, .slice xA xn xc] 37))).alloc (by rw [hsz]; exact Nat.le_refl _) (.cells #[] 34))
        obtain ⟨z, hz⟩ : ∃ z : Int, qv (foq (dg (rq ru)) (ds.map (fun d => givN (clN (nds xs) gs (ord (nds xs)) i) d i))) = .int .u64 z := ⟨_, rfl⟩
        have HZ := Lib.hid hz
        rw [show stepOf gs (clN (nds xs) gs (ord (nds xs)) i) ⟨nm, false, ru, ds⟩ = ⟨nm, true, (foq (dg (rq ru)) (ds.map (fun d => givN (clN (nds xs) gs (ord (nds xs)) i) d i)))⟩ by unfold stepOf; rw [if_neg (by simp), HOL.out]] at HCL
        have hxn : xn ≤ 1000 := HRX.out.2
        clear hx hmx hu6 hown hoi hb hj1 hj1n hal0 hds hout hem hsz hz
        go_wp2
        go_loopw [13, 12] (fun idx v wq => ∃ (j : Nat) (A8 : Option Addr) (c8 : Nat), j ≤ xn ∧ idx = .int .i64 (j : Int) ∧ v = .slice A8 j c8 ∧ wq.ownsRow (wo.heap.size + 1) 34 1 v j (((ds.take j).map (fun d => givN (clN (nds xs) gs (ord (nds xs)) i) d i)).map qv) ∧ Below (wo.heap.size + 1) (wo.alloc (.cells #[.string (tx nm), .bool false, .int .u64 ru, .slice xA xn xc] 37)) wq) (fun idx _ _ => xn - (intOf idx).toNat)
        case atStart => exact ⟨0, _, 0, by omega, rfl, rfl, HEM.out, HEB.out⟩
        case round =>
          obtain ⟨j, A8, c8, hj, rfl, rfl, how8, hbq⟩ := hrel
          have HO8 := Lib.hid how8
          have HBQ := Lib.hid hbq
          have hsq : wo.heap.size + 1 ≤ wr.heap.size := by have := hbq.size; have := HSZ.out; omega
          have HSQ := Lib.hid hsq
          have HNQ := Lib.hid ((hbq.block wo.heap.size (by omega)).trans HNEW.out)
          have p3 := at_cell (i := 3) HNQ.out rfl
          by_cases hlt3 : j < xn
          · obtain ⟨s, hs⟩ : ∃ s, ds[j]? = some s := ⟨_, List.getElem?_eq_getElem (by rw [HDL.out]; exact hlt3)⟩
            obtain ⟨ax, sv, rfl, hxb, hsv, hsc⟩ := ((HDS.out.more (Nat.le_succ _)).below hbq).at_ hlt3
            obtain rfl : sv = tsv s := by rw [List.getElem?_map, hs] at hsv; simpa using hsv.symm
            unfold tsv at hsc
            have HGV := Lib.hid (rgiven_any A7 i c7 (clN (nds xs) gs (ord (nds xs)) i) s (by omega) wr (((HOUT.out.more (Nat.le_succ _)).below hbq).more hsq))
            have HST : Hid (((ds.take (j + 1)).map (fun d => givN (clN (nds xs) gs (ord (nds xs)) i) d i)).map qv = ((ds.take j).map (fun d => givN (clN (nds xs) gs (ord (nds xs)) i) d i)).map qv ++ [qv (givN (clN (nds xs) gs (ord (nds xs)) i) s i)]) := by show _ = _; rw [List.take_add_one, hs, List.map_append, List.map_append]; rfl
            obtain ⟨y, hy⟩ : ∃ y : Int, qv (givN (clN (nds xs) gs (ord (nds xs)) i) s i) = .int .u64 y := ⟨_, rfl⟩
            rw [hy] at HGV HST
            have hjj0 : (0 : Int) ≤ (j : Int) := by omega
            have hjj1 : (j : Int) < (xn : Int) := by omega
            clear hs hsv how8 hbq hy hsq
            go_wp2_with (first
              | (at_builtin; refine wpList_append_many _ rfl (.tmp 50) (.tmp 58) 38 rfl (wo.heap.size + 1) 34 iq _ 1 8 Try.underlying38 hj0 hy0 hy1 hy2 rfl (by decide) (.slice A8 j c8) j _ rfl (HO8.out.alloc _) (some ⟨wr.heap.size, 0, none⟩) 1 1 (wr.heap.size + 1) [.int .u64 y] rfl (by intro h; cases h) (reads_one_row wr 34 _) (by intro u hu; simp at hu; subst hu; rfl) (by unfold maxLen; omega) (by omega) (by have := HSQ.out; simp; omega) ?_; intro v4 w4 ho4 hg4; have HO4 := Lib.hid ho4; have HG4 := Lib.hid hg4; clear ho4 hg4)
              | (go_at_call 15; refine HGV.out.mono ?_; rintro e w3 ⟨rfl, rfl⟩))
            obtain ⟨A9, c9, rfl, _⟩ := own_slice HO4.out
            have hal : Below wr.heap.size wr (wr.alloc (.cells #[.int .u64 y] 34)) := (Below.refl _ wr).alloc (Nat.le_refl _) _
            have hb4 := ((HBQ.out.trans (hal.mono HSQ.out)).grown HG4.out (by have := HSQ.out; have := hal.size; omega) (fun j hj => own_block HO8.out j hj))
            exact ⟨⟨j + 1, A9, c9, by omega, by go_num, rfl, by rw [HST.out]; exact HO4.out, hb4⟩, by simp [intOf]; omega⟩
          · obtain rfl : xn = j := by omega
            have hrd := Reads.of_own how8
            rw [List.take_of_length_le (by rw [HDL.out]; omega)] at hrd
            have hbq2 : Below (wo.alloc (.cells #[.string (tx nm), .bool false, .int .u64 ru, .slice xA xn xc] 37)).heap.size (wo.alloc (.cells #[.string (tx nm), .bool false, .int .u64 ru, .slice xA xn xc] 37)) wr := by rw [HSZ.out]; exact hbq
            have HOW := Lib.hid (own_below HOWA.out hbq2)
            have HOJ := Lib.hid (own_below HOJA.out hbq2)
            have HBV := Lib.hid (HBV0.out.trans (hbq2.mono HBV0.out.size))
            have HFO := Lib.hid (reffold_any A8 xn c8 (rq ru) (ds.map (fun d => givN (clN (nds xs) gs (ord (nds xs)) i) d i)) hxn wr.heap.size wr hrd)
            rw [HZ.out, show qv (rq ru) = .int .u64 ru from HRX.out.1] at HFO
            have p0 := at_cell (i := 0) HNQ.out rfl
            have p1 := at_cell (i := 1) HNQ.out rfl
            have p2 := at_cell (i := 2) HNQ.out rfl
            clear how8 hbq hbq2 hrd hsq
            go_wp2_with (first
              | (at_builtin; refine wpList_append_many _ rfl (.tmp 64) (.tmp 72) 23 rfl w.heap.size 44 ii _ 3 32 Try.underlying23 hi0 hz0 hz1 hz2 rfl (by decide) (.slice A7 i c7) i _ rfl (HOW.out.alloc _) (some ⟨wr.heap.size, 0, none⟩) 1 1 (wr.heap.size + 1) [.string (tx nm), .bool true, .int .u64 z] rfl (by intro h; cases h) (by have h9 := reads_step wr ⟨nm, true, (foq (dg (rq ru)) (ds.map (fun d => givN (clN (nds xs) gs (ord (nds xs)) i) d i)))⟩; unfold Stp.cells at h9; simp only [HZ.out] at h9; exact h9) (by intro u hu; simp at hu; rcases hu with rfl | rfl | rfl <;> rfl) (by unfold maxLen; omega) (by omega) (by have := HBV.out.size; simp; omega) ?_; intro v5 w5 ho5 hg5; have HO5 := Lib.hid ho5; have HG5 := Lib.hid hg5; clear ho5 hg5)
              | (go_at_call 13; refine HFO.out.mono ?_; rintro e w3 ⟨rfl, rfl⟩))
            obtain ⟨A9, c9, rfl, _⟩ := own_slice HO5.out
            have hal : Below wr.heap.size wr (wr.alloc (.cells #[.string (tx nm), .bool true, .int .u64 z] 44)) := (Below.refl _ wr).alloc (Nat.le_refl _) _
            have hst : sts (clN (nds xs) gs (ord (nds xs)) (i + 1)) = sts (clN (nds xs) gs (ord (nds xs)) i) ++ [.string (tx nm), .bool true, .int .u64 z] := by
              rw [HCL.out, sts_app]
              show _ ++ ([Value.string (tx nm), .bool true, qv (foq (dg (rq ru)) (ds.map (fun d => givN (clN (nds xs) gs (ord (nds xs)) i) d i)))] ++ []) = _
              rw [HZ.out]
              rfl
            have ho6 : w5.ownsRow w.heap.size 44 3 (.slice A9 (i + 1) c9) (i + 1) (sts (clN (nds xs) gs (ord (nds xs)) (i + 1))) := by rw [hst]; exact HO5.out
            have hap := own_apart HOJ.out HOW.out (by decide)
            have hoi : w5.ownsRow w.heap.size 3 1 (.slice (some a6) n c6) n (ivs (ord (nds xs))) := (own_below HOJ.out hal).kept HG5.out (by
              cases hq : (Value.slice (some a6) n c6).ownBlock with
              | none => exact .inl rfl
              | some g => exact .inr (fun e => hap g hq e.symm))
            have hb5 := ((HBV.out.trans (hal.mono HBV.out.size)).grown HG5.out (by have := HBV.out.size; have := hal.size; omega) (fun j hj => own_block HOW.out j hj))
            exact ⟨⟨i + 1, A9, c9, by omega, by go_num, rfl, ho6, hoi, hb5⟩, by simp [intOf]; omega⟩
    · obtain rfl : n = i := by omega
      clear hown hoi hb
      go_wp2
      go_ret2
      exact ⟨⟨A7, c7, rfl, HOWN.out⟩, HB.out⟩

end Go.Proofs.Ytacjiojfjkonkaa

/- The document's Same of steps, where both rows are alike. -/
namespace Go.Proofs.Ytacjiojfjkonkaa
open Go.RowKit

theorem fields_step : Try.prog.underlying 44 = some (.struct (Try.prog.fieldsOf 44)) := by kernel_rfl
theorem held_step : Try.prog.stoodInHeld 44 = false := by kernel_rfl
set_option maxRecDepth 100000 in
theorem step_alike (t : List UInt8) (b : Bool) (z : Int) (w : World) : (binOp .neq 44 (.agg #[.string (tx t), .bool b, .int .u64 z]) (.agg #[.string (tx t), .bool b, .int .u64 z])).run Try.prog w = .ok (.bool false) w := by
  rw [run_neq_struct, show (10000 : Nat) = 9999 + 1 from rfl, run_equalIn_agg _ _ _ _ _ fields_step held_step]
  simp only [Program.fieldsOf, Try.underlying44]
  go_simp

set_option maxRecDepth 100000 in
set_option maxHeartbeats 1000000 in
theorem ssame_ok (A : Option Addr) (n c : Nat) (A2 : Option Addr) (c2 : Nat) (xs : List Stp) (hn : n ≤ 1000000) (w : World) (h : Steps w w.heap.size A n xs) (h2 : Steps w w.heap.size A2 n xs) :
    Calls Try.prog 11 #[.slice A n c, .slice A2 n c2] w fun e w' => e = .returned (.bool true) ∧ Below w.heap.size w w' := by
  have HL : Hid (xs.length = n) := h.len
  have HR := Lib.hid h
  have HR2 := Lib.hid h2
  clear h h2
  go_enter Try.func11, Try.ntmps11
  go_wp2
  go_loopw [5] (fun idx wr => ∃ i : Nat, i ≤ n ∧ idx = .int .i64 (i : Int) ∧ Below w.heap.size w wr) (fun idx _ => n - (intOf idx).toNat)
  case atStart => exact ⟨0, by omega, rfl, Below.refl _ _⟩
  case round =>
    obtain ⟨i, hi, rfl, hb⟩ := hrel
    have HB := Lib.hid hb
    by_cases hlt : i < n
    · obtain ⟨x, hx⟩ : ∃ x, xs[i]? = some x := ⟨_, List.getElem?_eq_getElem (by rw [HL.out]; exact hlt)⟩
      obtain ⟨ad, rfl, _, k0, k1, k2⟩ := steps_cells (HR.out.below hb) i x hx
      obtain ⟨ad2, rfl, _, l0, l1, l2⟩ := steps_cells (HR2.out.below hb) i x hx
      obtain ⟨nm, ra, co⟩ := x
      obtain ⟨z, hz⟩ : ∃ z : Int, qv co = .int .u64 z := ⟨_, rfl⟩
      simp only [hz] at k0 k1 k2 l0 l1 l2
      have hal := fun (q : Nat) => step_alike nm ra z (wr.drewN q)
      have hi0 : (0 : Int) ≤ (i : Int) := by omega
      have hi1 : (i : Int) < (n : Int) := by omega
      clear hb hx hz
      go_wp2
      go_quiet (fail)
      go_wp2
      exact ⟨⟨i + 1, by omega, by go_num, HB.out.trans (below_drewN _ _ _)⟩, by simp [intOf]; omega⟩
    · obtain rfl : n = i := by omega
      clear hb
      go_wp2
      go_ret
      exact ⟨rfl, HB.out⟩

end Go.Proofs.Ytacjiojfjkonkaa

/- The example of layer 22: what comes of it. -/
namespace Go.Proofs.Ytacjiojfjkonkaa
open Go.RowKit Go.Sort

def exq (b : Nat) : List Nw := [⟨⟨[98], false, 1, [[97]]⟩, some ⟨b, 0, none⟩, 1, 1⟩, ⟨⟨[97], true, 0, []⟩, none, 0, 0⟩]
def exg : List Stp := [⟨[97], false, 5#64⟩]
theorem exq_chk (b : Nat) : chk (nds (exq b)) = 0 := by
  show chk [⟨[98], false, 1, [[97]]⟩, ⟨[97], true, 0, []⟩] = 0
  decide
theorem exq_ord (b : Nat) : ord (nds (exq b)) = [1, 0] := by
  show ord [⟨[98], false, 1, [[97]]⟩, ⟨[97], true, 0, []⟩] = [1, 0]
  decide
theorem exq_ok (b : Nat) : NOk (exq b) := fun x hx => by
  simp only [exq, List.mem_cons, List.not_mem_nil, or_false] at hx
  unfold NFits maxLen
  rcases hx with rfl | rfl <;> simp
theorem exq_rule (b : Nat) : ∀ x ∈ exq b, RuleOk x.d ∧ x.n ≤ 1000 := fun x hx => by
  simp only [exq, List.mem_cons, List.not_mem_nil, or_false] at hx
  unfold RuleOk
  rcases hx with rfl | rfl
  · exact ⟨rfl, by show 1 ≤ 1000; omega⟩
  · exact ⟨rfl, by show 0 ≤ 1000; omega⟩
theorem exq_clean (b : Nat) : clN (nds (exq b)) exg (ord (nds (exq b))) 2 = [⟨[97], false, 5#64⟩, ⟨[98], true, foq (dg 1#64) [5#64]⟩] := by
  rw [exq_ord]
  rfl

end Go.Proofs.Ytacjiojfjkonkaa

/- The example of layer 22. -/
namespace Go.Proofs.Ytacjiojfjkonkaa
open Go.RowKit Go.Sort

theorem at0 (b j : Nat) : (⟨b, 0, none⟩ : Addr).add j = ⟨b, j, none⟩ := by
  unfold Addr.add
  split
  · rename_i h; rw [h]
  · simp
theorem exq_nodes (w : World) : Nodes ((w.alloc (.cells #[.string { data := #[97] }] 9)).alloc (.cells #[.string { data := #[98] }, .bool false, .int .u64 1, .slice (some ⟨w.heap.size, 0, none⟩) 1 1, .string { data := #[97] }, .bool true, .int .u64 0, .slice none 0 0] 37)) ((w.alloc (.cells #[.string { data := #[97] }] 9)).alloc (.cells #[.string { data := #[98] }, .bool false, .int .u64 1, .slice (some ⟨w.heap.size, 0, none⟩) 1 1, .string { data := #[97] }, .bool true, .int .u64 0, .slice none 0 0] 37)).heap.size (some ⟨w.heap.size + 1, 0, none⟩) 2 (exq w.heap.size) := by
  obtain ⟨h1, h2, h3⟩ := two_new w (.cells #[.string { data := #[97] }] 9) (.cells #[.string { data := #[98] }, .bool false, .int .u64 1, .slice (some ⟨w.heap.size, 0, none⟩) 1 1, .string { data := #[97] }, .bool true, .int .u64 0, .slice none 0 0] 37)
  refine ⟨⟨rfl, fun _ => ⟨_, rfl, by rw [h3]; show w.heap.size + 1 < _; omega, fun j u hu => ?_⟩⟩, fun x hx => ?_⟩
  · rw [at0]
    exact at_cell h2 ((List.getElem?_toArray ..).trans hu)
  · simp only [exq, List.mem_cons, List.not_mem_nil, or_false] at hx
    rcases hx with rfl | rfl
    · exact ((reads_one_row w 9 (.string { data := #[97] })).alloc (by simp) (.cells #[.string { data := #[98] }, .bool false, .int .u64 1, .slice (some ⟨w.heap.size, 0, none⟩) 1 1, .string { data := #[97] }, .bool true, .int .u64 0, .slice none 0 0] 37)).more (by rw [h3]; omega)
    · exact Reads.none_

set_option maxRecDepth 100000 in
set_option maxHeartbeats 2000000 in
theorem qfixed_any (w : World) : Calls Try.prog 8 #[] w fun e w' => e = .returned (.bool true) ∧ Below w.heap.size w w' := by
  have hsz : ((w.alloc (.cells #[.string { data := #[97] }] 9)).alloc (.cells #[.string { data := #[98] }, .bool false, .int .u64 1, .slice (some ⟨w.heap.size, 0, none⟩) 1 1, .string { data := #[97] }, .bool true, .int .u64 0, .slice none 0 0] 37)).heap.size = w.heap.size + 1 + 1 := by simp
  have hal : Below ((w.alloc (.cells #[.string { data := #[97] }] 9)).alloc (.cells #[.string { data := #[98] }, .bool false, .int .u64 1, .slice (some ⟨w.heap.size, 0, none⟩) 1 1, .string { data := #[97] }, .bool true, .int .u64 0, .slice none 0 0] 37)).heap.size ((w.alloc (.cells #[.string { data := #[97] }] 9)).alloc (.cells #[.string { data := #[98] }, .bool false, .int .u64 1, .slice (some ⟨w.heap.size, 0, none⟩) 1 1, .string { data := #[97] }, .bool true, .int .u64 0, .slice none 0 0] 37)) (((w.alloc (.cells #[.string { data := #[97] }] 9)).alloc (.cells #[.string { data := #[98] }, .bool false, .int .u64 1, .slice (some ⟨w.heap.size, 0, none⟩) 1 1, .string { data := #[97] }, .bool true, .int .u64 0, .slice none 0 0] 37)).alloc (.cells #[.string { data := #[97] }, .bool false, .int .u64 5] 44)) := (Below.refl _ _).alloc (Nat.le_refl _) (.cells #[.string { data := #[97] }, .bool false, .int .u64 5] 44)
  have HB3 := Lib.hid ((((Below.refl w.heap.size w).alloc (Nat.le_refl _) (.cells #[.string { data := #[97] }] 9)).alloc (by simp) (.cells #[.string { data := #[98] }, .bool false, .int .u64 1, .slice (some ⟨w.heap.size, 0, none⟩) 1 1, .string { data := #[97] }, .bool true, .int .u64 0, .slice none 0 0] 37)).alloc (by simp; omega) (.cells #[.string { data := #[97] }, .bool false, .int .u64 5] 44))
  have hst : Steps (((w.alloc (.cells #[.string { data := #[97] }] 9)).alloc (.cells #[.string { data := #[98] }, .bool false, .int .u64 1, .slice (some ⟨w.heap.size, 0, none⟩) 1 1, .string { data := #[97] }, .bool true, .int .u64 0, .slice none 0 0] 37)).alloc (.cells #[.string { data := #[97] }, .bool false, .int .u64 5] 44)) (((w.alloc (.cells #[.string { data := #[97] }] 9)).alloc (.cells #[.string { data := #[98] }, .bool false, .int .u64 1, .slice (some ⟨w.heap.size, 0, none⟩) 1 1, .string { data := #[97] }, .bool true, .int .u64 0, .slice none 0 0] 37)).alloc (.cells #[.string { data := #[97] }, .bool false, .int .u64 5] 44)).heap.size (some ⟨w.heap.size + 1 + 1, 0, none⟩) 1 exg := by
    have := (reads_step ((w.alloc (.cells #[.string { data := #[97] }] 9)).alloc (.cells #[.string { data := #[98] }, .bool false, .int .u64 1, .slice (some ⟨w.heap.size, 0, none⟩) 1 1, .string { data := #[97] }, .bool true, .int .u64 0, .slice none 0 0] 37)) ⟨[97], false, 5#64⟩).more (show ((w.alloc (.cells #[.string { data := #[97] }] 9)).alloc (.cells #[.string { data := #[98] }, .bool false, .int .u64 1, .slice (some ⟨w.heap.size, 0, none⟩) 1 1, .string { data := #[97] }, .bool true, .int .u64 0, .slice none 0 0] 37)).heap.size + 1 ≤ (((w.alloc (.cells #[.string { data := #[97] }] 9)).alloc (.cells #[.string { data := #[98] }, .bool false, .int .u64 1, .slice (some ⟨w.heap.size, 0, none⟩) 1 1, .string { data := #[97] }, .bool true, .int .u64 0, .slice none 0 0] 37)).alloc (.cells #[.string { data := #[97] }, .bool false, .int .u64 5] 44)).heap.size by simp)
    rw [hsz] at this
    exact this
  have HCL := Lib.hid (clean_ok (some ⟨w.heap.size + 1, 0, none⟩) 2 2 (exq w.heap.size) (by omega) (exq_ok _) (exq_rule _) (exq_chk _) (some ⟨w.heap.size + 1 + 1, 0, none⟩) 1 1 exg (by omega) (((w.alloc (.cells #[.string { data := #[97] }] 9)).alloc (.cells #[.string { data := #[98] }, .bool false, .int .u64 1, .slice (some ⟨w.heap.size, 0, none⟩) 1 1, .string { data := #[97] }, .bool true, .int .u64 0, .slice none 0 0] 37)).alloc (.cells #[.string { data := #[97] }, .bool false, .int .u64 5] 44)) (((exq_nodes w).below hal).more hal.size) hst)
  rw [exq_clean] at HCL
  clear hsz hal hst
  obtain ⟨z, hz⟩ : ∃ z : Int, qv (foq (dg 1#64) [5#64]) = .int .u64 z := ⟨_, rfl⟩
  have HZ := Lib.hid hz
  clear hz
  go_enter Try.func8, Try.ntmps8
  go_wp2_with fail
  refine HCL.out.mono ?_
  rintro e w5 ⟨⟨A5, c5, rfl, ho5⟩, hb5⟩
  have HR5 : Hid (Steps w5 w5.heap.size A5 2 [⟨[97], false, 5#64⟩, ⟨[98], true, foq (dg 1#64) [5#64]⟩]) := Reads.of_own ho5
  have HB5 := Lib.hid (HB3.out.trans (hb5.mono HB3.out.size))
  have HF := Lib.hid (reffold_any (some ⟨w5.heap.size, 0, none⟩) 1 1 1#64 [5#64] (by omega) _ _ (reads_one_row w5 34 (qv 5#64)))
  rw [HZ.out] at HF
  have hal6 : Below w5.heap.size w5 (w5.alloc (.cells #[qv 5#64] 34)) := (Below.refl _ w5).alloc (Nat.le_refl _) _
  have HA6 := Lib.hid hal6
  have hs : sts [⟨[97], false, 5#64⟩, ⟨[98], true, foq (dg 1#64) [5#64]⟩] = [.string { data := #[97] }, .bool false, .int .u64 5, .string { data := #[98] }, .bool true, .int .u64 z] := by
    show [Value.string (tx [97]), .bool false, qv 5#64, .string (tx [98]), .bool true, qv (foq (dg 1#64) [5#64])] = _
    rw [HZ.out]
    rfl
  have HSM : Hid (∀ (V : World), Below w5.heap.size w5 V → Calls Try.prog 11 #[.slice A5 2 c5, .slice (some ⟨V.heap.size, 0, none⟩) 2 2] (V.alloc (.cells #[.string { data := #[97] }, .bool false, .int .u64 5, .string { data := #[98] }, .bool true, .int .u64 z] 44)) fun e w' => e = .returned (.bool true) ∧ Below V.heap.size V w') := fun V hV => by
    have hV2 : Below V.heap.size V (V.alloc (.cells #[.string { data := #[97] }, .bool false, .int .u64 5, .string { data := #[98] }, .bool true, .int .u64 z] 44)) := (Below.refl _ V).alloc (Nat.le_refl _) _
    refine Calls.mono (ssame_ok A5 2 c5 (some ⟨V.heap.size, 0, none⟩) 2 [⟨[97], false, 5#64⟩, ⟨[98], true, foq (dg 1#64) [5#64]⟩] (by omega) (V.alloc (.cells #[.string { data := #[97] }, .bool false, .int .u64 5, .string { data := #[98] }, .bool true, .int .u64 z] 44)) ((HR5.out.below (hV.trans (hV2.mono hV.size))).more (hV.trans (hV2.mono hV.size)).size) ?_) (fun e w' h => ⟨h.1, hV2.trans (h.2.mono hV2.size)⟩)
    unfold Steps
    rw [hs]
    exact ⟨rfl, fun _ => ⟨_, rfl, by simp, fun j u hu => by rw [at0]; exact at_cell (one_new V _) ((List.getElem?_toArray ..).trans hu)⟩⟩
  clear ho5 hb5 hal6 HCL HB3 hs
  go_wp2_with (first
    | (go_at_call 11; refine (HSM.out w6 HA6.out).mono ?_; rintro e w8 ⟨rfl, hb8⟩; have HB8 := Lib.hid ((HB5.out.trans (HA6.out.mono HB5.out.size)).trans (hb8.mono (HB5.out.trans (HA6.out.mono HB5.out.size)).size)); clear hb8)
    | (go_at_call 13; refine HF.out.mono ?_; rintro e w6 ⟨rfl, hw6⟩; rw [hw6] at HA6; clear hw6))
  go_ret
  exact ⟨rfl, HB8.out⟩

end Go.Proofs.Ytacjiojfjkonkaa

/- The way down: nodes whose rules are numbers of 64 bits. -/
namespace Go.Proofs.Ytacjiojfjkonkaa
open Go.ChangeShapes Go.WideShapes Go.ChangeAt Go.RowKit Go.Deep

/-- The cells of a node, out of its data. -/
theorem open_ncellsq {H : Type} {enc : TypeId × Value → H} {W : World} {fuel : Nat} {cs : List Value} {x : DataW H × List MemPlace} (hf : DataW.trod enc Try.prog W 0 (fun _ => true) true fuel 37 cs = some x) :
    ∃ x : Nw, cs = x.cells ∧ NGood W x ∧ RuleOk x.d := by
  obtain ⟨y0, y1, y2, y3, n', hl, g0, g1, g2, g3⟩ := trod_struct4 Try.underlying37 hf
  rw [n_node] at hl
  rw [n_str] at g0
  rw [n_bool] at g1
  rw [n_u64] at g2
  rw [n_strs] at g3
  obtain ⟨z0, e0, _, w0⟩ := DataW.trod_string Try.underlying9 g0
  obtain ⟨z1, e1, _⟩ := DataW.trod_bool Try.underlying4 g1
  obtain ⟨z2, e2, _, w2⟩ := DataW.trod_int Try.underlying34 g2
  obtain ⟨A, n, c, ts, e3, hn, hc, hA, hr, hd⟩ := open_ntexts g3
  obtain ⟨zn, rfl, hzn⟩ := nat_u64 w2
  refine ⟨⟨⟨z0.data.toList, z1, (zn : Int), ts⟩, A, n, c⟩, ?_, ⟨⟨by rw [Array.length_toList]; exact w0, hd⟩, hn, hc, hA, hr⟩, by unfold RuleOk rq; rw [Int.toNat_natCast]; exact qv_ofNat hzn⟩
  match cs, hl with
  | [c0, c1, c2, c3], _ =>
    have f0 := n_one_at e0
    have f1 := n_one_at e1
    have f2 := n_one_at e2
    have f3 := n_one_at e3
    simp at f0 f1 f2 f3
    subst f0 f1 f2 f3
    unfold Nw.cells
    simp only [n_tx_back]

set_option maxRecDepth 100000 in
theorem open_nodesq {H : Type} {enc : TypeId × Value → H} {W : World} {v : Value} {d : DataW H} {ps : List MemPlace} {r0 : Reach} {b0 : Nat} (hval : Value.okWide Try.prog W r0 b0 22 v) (hd : DataW.Trod enc Try.prog W 0 (fun _ => true) true 22 v d ps) :
    ∃ (A : Option Addr) (n c : Nat) (xs : List Nw), v = .slice A n c ∧ n ≤ c ∧ c ≤ maxLen ∧ (A = none → c = 0) ∧ (∀ x ∈ xs, NGood W x ∧ RuleOk x.d) ∧ Nodes W W.heap.size A n xs := by
  obtain ⟨A0, n0, c0, rfl⟩ := okWide_slice Try.underlying22 hval
  obtain ⟨fuel, hf⟩ := hd
  rcases Go.Deep.open_slice Try.underlying22 hf with ⟨hcs, _⟩ | ⟨ad, n, c, m, k, D, Pl, hcs, _, hl, hmx, hm, _, hi⟩
  · have e : Value.slice A0 n0 c0 = .slice none 0 0 := by simpa [Value.cells] using hcs
    exact ⟨none, 0, 0, [], e, Nat.le_refl _, by omega, fun _ => rfl, by simp, Nodes.nil _ _ _⟩
  · have hnm : n ≤ m := by rw [hm]; simp; exact hl
    have e : Value.slice A0 n0 c0 = .slice (some ad) n c := by simpa [Value.cells] using hcs
    have hall : ∀ i, i < n → ∃ x : Nw, (NGood W x ∧ RuleOk x.d) ∧ ∀ k u, x.cells[k]? = some u → W.cell? (ad.add (i * 4 + k)) = some u := by
      intro i hin
      obtain ⟨cs, hcell, htr⟩ := hi i (by omega)
      rw [n_node] at hcell
      obtain ⟨_, _, hat⟩ := World.cells?_some hcell
      obtain ⟨x, rfl, hx⟩ := open_ncellsq htr
      refine ⟨x, hx, fun k u hu => ?_⟩
      have hk : k < 4 := (List.getElem?_eq_some_iff.1 hu).1
      have h := hat k (by omega)
      rw [add_of_add] at h
      rw [h]
      exact hu
    obtain ⟨xs, h1, h2, h3⟩ := nodes_row W ad _ n hall
    refine ⟨some ad, n, c, xs, e, hl, hmx, fun h => (by cases h), h2, ⟨by rw [nws_len, h1], fun hn => ⟨ad, rfl, ?_, fun j u hu => ?_⟩⟩, fun x hx => (h2 x hx).1.2.2.2.2⟩
    · obtain ⟨x, _, h4⟩ := hall 0 hn
      have := cell_lt (h4 0 _ rfl)
      rwa [block_of_add] at this
    · obtain ⟨x, g1, g2⟩ := nws_back xs j u hu
      have := h3 _ x g1 _ u g2
      rwa [show j / 4 * 4 + j % 4 = j by omega] at this

end Go.Proofs.Ytacjiojfjkonkaa

/- RuleRuns. -/
namespace Go.Proofs.Ytacjiojfjkonkaa
open Go.RowKit

theorem lt_of_heap {W : World} {a : Nat} {o : Obj} (h : W.heap[a]? = some o) : a < W.heap.size := (Array.getElem?_eq_some_iff.1 h).1

set_option maxRecDepth 100000 in
set_option maxHeartbeats 4000000 in
theorem rruns_any (x : Nw) (L : Option Addr) (m d : Nat) (qs : List Q64) (G : Option Addr) (gn gc : Nat) (gs : List Stp) (w : World) (hg : NGood w x) (hru : RuleOk x.d) (hmx : m ≤ maxLen) (hr : Reads w w.heap.size 1 L m (qs.map qv)) (hgm : gn ≤ maxLen) (hgl : ∀ x ∈ gs, x.name.length ≤ maxLen) (hs : Steps w w.heap.size G gn gs) :
    Calls Try.prog 4 #[x.val, .slice L m d, .slice G gn gc] w fun e w' => e = .returned (.bool true) ∧ Below w.heap.size w w' := by
  obtain ⟨hfit, hnc, hcm, hac, hx⟩ := hg
  have HFW := Lib.hid (fun (W : World) (hb : Below w.heap.size w W) => few_any G gn gc gs hgm hgl W ((hs.below hb).more hb.size))
  have hm63 : (m : Int) ≤ 9223372036854775807 := by unfold maxLen at hmx; omega
  have hnl := hfit.1
  obtain ⟨⟨nm, sc, ru, ds⟩, xA, xn, xc⟩ := x
  have hru2 : qv (rq ru) = .int .u64 ru := hru
  obtain ⟨q, hq⟩ : ∃ q, q = nm.length := ⟨_, rfl⟩
  have hs0 := tx_size0 nm
  simp only at hnl
  rw [← hq] at hs0 hnl
  unfold maxLen at hnl
  unfold Nw.val at *
  simp only at *
  have H0 := Lib.hid (one_new w (.cells #[.string (tx nm), .bool sc, .int .u64 ru, .slice xA xn xc] 37))
  have HB0 := Lib.hid ((Below.refl w.heap.size w).alloc (Nat.le_refl _) (.cells #[.string (tx nm), .bool sc, .int .u64 ru, .slice xA xn xc] 37))
  have HS0 : Hid (w.heap.size < (w.alloc (.cells #[.string (tx nm), .bool sc, .int .u64 ru, .slice xA xn xc] 37)).heap.size) := by show w.heap.size < _; simp
  have q0 := at_cell (i := 0) H0.out rfl
  have q1 := at_cell (i := 1) H0.out rfl
  have q2 := at_cell (i := 2) H0.out rfl
  have q3 := at_cell (i := 3) H0.out rfl
  by_cases h100 : m ≤ 100
  · have d1 : decide ((m : Int) > 100) = false := decide_eq_false (by omega)
    by_cases fw : FewS gs
    · have FWH := Lib.hid fw
      have hgn : gn ≤ 100 := by rw [← hs.len]; exact fw.2
      by_cases hn100 : q ≤ 100
      · have d2 : decide ((q : Int) > 100) = false := decide_eq_false (by omega)
        have HRUN := Lib.hid (fun (W : World) (hb : Below w.heap.size w W) => run_any nm sc (rq ru) xA xn xc L m d qs (by omega) W ((hr.below hb).more hb.size))
        have HREF := Lib.hid (fun (W : World) (hb : Below w.heap.size w W) => reffold_any L m d (rq ru) qs (by omega) W.heap.size W ((hr.below hb).more hb.size))
        have HGIV := Lib.hid (fun (W : World) (hb : Below w.heap.size w W) => given_any G gn gc gs nm (by omega) W ((hs.below hb).more hb.size))
        have HRGIV := Lib.hid (fun (W : World) (hb : Below w.heap.size w W) => rgiven_any G gn gc gs nm (by omega) W ((hs.below hb).more hb.size))
        rw [hru2] at HRUN HREF
        obtain ⟨k1, hk1⟩ : ∃ k : Int, qv (foq (dg (rq ru)) qs) = .int .u64 k := ⟨_, rfl⟩
        obtain ⟨k2, hk2⟩ : ∃ k : Int, qv (givN gs nm gn) = .int .u64 k := ⟨_, rfl⟩
        rw [hk1] at HRUN HREF
        rw [hk2] at HGIV HRGIV
        clear hr hgl hs fw hfit hx hac hcm hru hru2 hk1 hk2 hq
        go_enter Try.func4, Try.ntmps4
        go_wp2_with (first
          | (go_at_call 7; refine (HFW.out _ HB0.out).mono ?_; rintro e w2 ⟨he, hb2⟩; obtain rfl := he.yes FWH.out; have HB2 := Lib.hid (HB0.out.trans (hb2.mono HB0.out.size)); have HN2 := Lib.hid ((hb2.block w.heap.size HS0.out).trans H0.out); have q0 := at_cell (i := 0) HN2.out rfl; have q1 := at_cell (i := 1) HN2.out rfl; have q2 := at_cell (i := 2) HN2.out rfl; have q3 := at_cell (i := 3) HN2.out rfl; clear hb2))
        have HSD : Hid (w2.drew.heap[w.heap.size]? = some (.cells #[.string (tx nm), .bool sc, .int .u64 ru, .slice xA xn xc] 37) ∧ Below w.heap.size w w2.drew) := ⟨HN2.out, HB2.out.drew⟩
        refine wp_region_held (S := fun v => v.heap[w.heap.size]? = some (.cells #[.string (tx nm), .bool sc, .int .u64 ru, .slice xA xn xc] 37) ∧ Below w.heap.size w v) (by kernel_rfl) ?_
        refine h_one 0 rfl (by kernel_rfl) (by kernel_rfl) (fun K hK => ?_)
        go_simp
        refine (qfixed_any _).mono ?_
        rintro e wf ⟨rfl, hbf⟩
        have HF : Hid (wf.heap[w.heap.size]? = some (.cells #[.string (tx nm), .bool sc, .int .u64 ru, .slice xA xn xc] 37) ∧ Below w.heap.size w wf) := ⟨(hbf.block w.heap.size (lt_of_heap HSD.out.1)).trans HSD.out.1, HSD.out.2.trans (hbf.mono HSD.out.2.size)⟩
        clear hbf
        refine hK _ _ HF.out ?_
        clear hK K
        refine h_take 1 (.bool true) rfl (by kernel_rfl) (by kernel_rfl) (by kernel_rfl) (fun _ _ _ h => h) (by kernel_rfl) HF.out (fun _ _ => by kernel_rfl) ?_
        refine h_take 2 (.agg #[.string (tx nm), .bool sc, .int .u64 ru, .slice xA xn xc]) rfl (by kernel_rfl) (by kernel_rfl) (by kernel_rfl) (fun _ _ _ h => h) (by kernel_rfl) HF.out (by intro v hv; have b0 := at_cell (i := 0) hv.1 rfl; have b1 := at_cell (i := 1) hv.1 rfl; have b2 := at_cell (i := 2) hv.1 rfl; have b3 := at_cell (i := 3) hv.1 rfl; go_simp) ?_
        refine h_take 3 (.slice L m d) rfl (by kernel_rfl) (by kernel_rfl) (by kernel_rfl) (fun _ _ _ h => h) (by kernel_rfl) HF.out (fun _ _ => by kernel_rfl) ?_
        refine h_take 5 (.pointer (some ⟨w.heap.size, 2, none⟩)) rfl (by kernel_rfl) (by kernel_rfl) (by kernel_rfl) (fun _ _ _ h => h) (by kernel_rfl) HF.out (fun _ _ => by kernel_rfl) ?_
        refine h_take 6 (.int .u64 ru) rfl (by kernel_rfl) (by kernel_rfl) (by kernel_rfl) (fun _ _ _ h => h) (by kernel_rfl) HF.out (by intro v hv; have b0 := at_cell (i := 0) hv.1 rfl; have b1 := at_cell (i := 1) hv.1 rfl; have b2 := at_cell (i := 2) hv.1 rfl; have b3 := at_cell (i := 3) hv.1 rfl; go_simp) ?_
        refine h_take 7 (.slice L m d) rfl (by kernel_rfl) (by kernel_rfl) (by kernel_rfl) (fun _ _ _ h => h) (by kernel_rfl) HF.out (fun _ _ => by kernel_rfl) ?_
        refine h_one 4 rfl (by kernel_rfl) (by kernel_rfl) (fun K hK => ?_)
        go_simp
        refine (HRUN.out _ HF.out.2).mono ?_
        rintro e wg ⟨rfl, hbg⟩
        have HGW : Hid (wg.heap[w.heap.size]? = some (.cells #[.string (tx nm), .bool sc, .int .u64 ru, .slice xA xn xc] 37) ∧ Below w.heap.size w wg) := ⟨(hbg.block w.heap.size (lt_of_heap HF.out.1)).trans HF.out.1, HF.out.2.trans (hbg.mono HF.out.2.size)⟩
        clear hbg
        refine hK _ _ HGW.out ?_
        clear hK K
        refine h_one 8 rfl (by kernel_rfl) (by kernel_rfl) (fun K hK => ?_)
        go_simp
        refine (HREF.out _ HGW.out.2).mono ?_
        rintro e wh ⟨rfl, rfl⟩
        refine hK _ _ HGW.out ?_
        clear hK K
        refine h_take 9 (.bool true) rfl (by kernel_rfl) (by kernel_rfl) (by kernel_rfl) (fun _ _ _ h => h) (by kernel_rfl) HGW.out (by intro v hv; go_simp) ?_
        refine h_take 10 (.bool true) rfl (by kernel_rfl) (by kernel_rfl) (by kernel_rfl) (fun _ _ _ h => h) (by kernel_rfl) HGW.out (fun _ _ => by kernel_rfl) ?_
        refine h_take 11 (.bool true) rfl (by kernel_rfl) (by kernel_rfl) (by kernel_rfl) (fun _ _ _ h => h) (by kernel_rfl) HGW.out (fun _ _ => by kernel_rfl) ?_
        refine h_take 12 (.slice G gn gc) rfl (by kernel_rfl) (by kernel_rfl) (by kernel_rfl) (fun _ _ _ h => h) (by kernel_rfl) HGW.out (fun _ _ => by kernel_rfl) ?_
        refine h_take 13 (.pointer (some ⟨w.heap.size, 0, none⟩)) rfl (by kernel_rfl) (by kernel_rfl) (by kernel_rfl) (fun _ _ _ h => h) (by kernel_rfl) HGW.out (fun _ _ => by kernel_rfl) ?_
        refine h_take 14 (.string (tx nm)) rfl (by kernel_rfl) (by kernel_rfl) (by kernel_rfl) (fun _ _ _ h => h) (by kernel_rfl) HGW.out (by intro v hv; have b0 := at_cell (i := 0) hv.1 rfl; have b1 := at_cell (i := 1) hv.1 rfl; have b2 := at_cell (i := 2) hv.1 rfl; have b3 := at_cell (i := 3) hv.1 rfl; go_simp) ?_
        refine h_take 16 (.slice G gn gc) rfl (by kernel_rfl) (by kernel_rfl) (by kernel_rfl) (fun _ _ _ h => h) (by kernel_rfl) HGW.out (fun _ _ => by kernel_rfl) ?_
        refine h_take 17 (.pointer (some ⟨w.heap.size, 0, none⟩)) rfl (by kernel_rfl) (by kernel_rfl) (by kernel_rfl) (fun _ _ _ h => h) (by kernel_rfl) HGW.out (fun _ _ => by kernel_rfl) ?_
        refine h_take 18 (.string (tx nm)) rfl (by kernel_rfl) (by kernel_rfl) (by kernel_rfl) (fun _ _ _ h => h) (by kernel_rfl) HGW.out (by intro v hv; have b0 := at_cell (i := 0) hv.1 rfl; have b1 := at_cell (i := 1) hv.1 rfl; have b2 := at_cell (i := 2) hv.1 rfl; have b3 := at_cell (i := 3) hv.1 rfl; go_simp) ?_
        refine h_one 15 rfl (by kernel_rfl) (by kernel_rfl) (fun K hK => ?_)
        go_simp
        refine (HGIV.out _ HGW.out.2).mono ?_
        rintro e wi ⟨rfl, rfl⟩
        refine hK _ _ HGW.out ?_
        clear hK K
        refine h_one 19 rfl (by kernel_rfl) (by kernel_rfl) (fun K hK => ?_)
        go_simp
        refine (HRGIV.out _ HGW.out.2).mono ?_
        rintro e wj ⟨rfl, rfl⟩
        refine hK _ _ HGW.out ?_
        clear hK K
        refine h_take 20 (.bool true) rfl (by kernel_rfl) (by kernel_rfl) (by kernel_rfl) (fun _ _ _ h => h) (by kernel_rfl) HGW.out (by intro v hv; go_simp) ?_
        refine h_take 21 (.bool true) rfl (by kernel_rfl) (by kernel_rfl) (by kernel_rfl) (fun _ _ _ h => h) (by kernel_rfl) HGW.out (fun _ _ => by kernel_rfl) ?_
        refine h_take 22 (.bool true) rfl (by kernel_rfl) (by kernel_rfl) (by kernel_rfl) (fun _ _ _ h => h) (by kernel_rfl) HGW.out (fun _ _ => by kernel_rfl) ?_
        refine wpAnyH_done (by kernel_rfl) ?_ _
        go_simp
        go_wp2
        go_ret
        exact ⟨rfl, HGW.out.2⟩
      · have d2 : decide ((q : Int) > 100) = true := decide_eq_true (by omega)
        clear hr hgl hs fw hfit hx hac hcm hru hru2 hq
        go_enter Try.func4, Try.ntmps4
        go_wp2_with (first
          | (go_at_call 8; refine (qfixed_any _).mono ?_; rintro e w3 ⟨rfl, hb3⟩; have HB3 := Lib.hid (HB2.out.trans (hb3.mono HB2.out.size)); clear hb3)
          | (go_at_call 7; refine (HFW.out _ HB0.out).mono ?_; rintro e w2 ⟨he, hb2⟩; obtain rfl := he.yes FWH.out; have HB2 := Lib.hid (HB0.out.trans (hb2.mono HB0.out.size)); have HN2 := Lib.hid ((hb2.block w.heap.size HS0.out).trans H0.out); have q0 := at_cell (i := 0) HN2.out rfl; have q1 := at_cell (i := 1) HN2.out rfl; have q2 := at_cell (i := 2) HN2.out rfl; have q3 := at_cell (i := 3) HN2.out rfl; clear hb2))
        go_ret
        exact ⟨rfl, HB3.out⟩
    · have FWH := Lib.hid fw
      clear hr hgl hs fw hfit hx hac hcm hru hru2 hq
      go_enter Try.func4, Try.ntmps4
      go_wp2_with (first
        | (go_at_call 8; refine (qfixed_any _).mono ?_; rintro e w3 ⟨rfl, hb3⟩; have HB3 := Lib.hid (HB2.out.trans (hb3.mono HB2.out.size)); clear hb3)
        | (go_at_call 7; refine (HFW.out _ HB0.out).mono ?_; rintro e w2 ⟨he, hb2⟩; obtain rfl := he.no FWH.out; have HB2 := Lib.hid (HB0.out.trans (hb2.mono HB0.out.size)); have HN2 := Lib.hid ((hb2.block w.heap.size HS0.out).trans H0.out); have q0 := at_cell (i := 0) HN2.out rfl; have q1 := at_cell (i := 1) HN2.out rfl; have q2 := at_cell (i := 2) HN2.out rfl; have q3 := at_cell (i := 3) HN2.out rfl; clear hb2))
      go_ret
      exact ⟨rfl, HB3.out⟩
  · have d1 : decide ((m : Int) > 100) = true := decide_eq_true (by omega)
    clear hr hgl hs hfit hx hac hcm hru hru2 hq
    go_enter Try.func4, Try.ntmps4
    go_wp2_with (first
      | (go_at_call 8; refine (qfixed_any _).mono ?_; rintro e w3 ⟨rfl, hb3⟩; have HB3 := Lib.hid (HB0.out.trans (hb3.mono HB0.out.size)); clear hb3))
    go_ret
    exact ⟨rfl, HB3.out⟩

set_option maxRecDepth 100000 in
theorem open_nodeq {H : Type} {enc : TypeId × Value → H} {W : World} {v : Value} {d : DataW H} {ps : List MemPlace} {r0 : Reach} {b0 : Nat} (hval : Value.okWide Try.prog W r0 b0 37 v) (hd : DataW.Trod enc Try.prog W 0 (fun _ => true) true 37 v d ps) :
    ∃ x : Nw, v = x.val ∧ NGood W x ∧ RuleOk x.d := by
  obtain ⟨cs, rfl, _⟩ := Go.WideShapes.okWide_struct Try.underlying37 hval
  obtain ⟨fuel, hf⟩ := hd
  obtain ⟨x, h1, h2, h3⟩ := open_ncellsq hf
  refine ⟨x, ?_, h2, h3⟩
  have : cs = x.cells.toArray := by
    apply Array.ext'
    simpa [Value.cells] using h1
  rw [this]
  rfl

end Go.Proofs.Ytacjiojfjkonkaa

/- Layer 21's Great. -/
namespace Go.Proofs.Ytacjiojfjkonkaa
open Go.RowKit Go.Sort

/-- A node, a graph that is not too great. -/
def GSm1 (x : Nd) : Prop := x.deps.length ≤ 30 ∧ x.name.length ≤ 100 ∧ ∀ d ∈ x.deps, d.length ≤ 100
def GSm (l : List Nd) : Prop := (∀ x ∈ l, GSm1 x) ∧ l.length ≤ 80
theorem gsm_step {l : List Nd} {i : Nat} {x : Nd} (hx : l[i]? = some x) (h : ∀ y ∈ l.take i, GSm1 y) (hd : GSm1 x) : ∀ y ∈ l.take (i + 1), GSm1 y := fun y hy => by
  rw [List.take_add_one, hx, List.mem_append] at hy
  rcases hy with hy | hy
  · exact h y hy
  · obtain rfl : y = x := by simpa using hy
    exact hd

set_option maxRecDepth 100000 in
set_option maxHeartbeats 4000000 in
theorem ggreat_any (A : Option Addr) (n c : Nat) (xs : List Nw) (hn : n ≤ maxLen) (hok : ∀ x ∈ xs, NFits x.d ∧ x.n ≤ maxLen) (w : World) (h : Nodes w w.heap.size A n xs) :
    Calls Try.prog 6 #[.slice A n c] w fun e w' => Tells (¬ GSm (nds xs)) e ∧ Below w.heap.size w w' := by
  have HL : Hid (xs.length = n) := h.len
  have HLD : Hid ((nds xs).length = n) := by show _ = _; rw [nds_len]; exact h.len
  have HNS := Lib.hid h
  have HF := Lib.hid hok
  unfold maxLen at hn
  have hn2 : (n : Int) ≤ 9223372036854775807 := by omega
  clear h hok
  go_enter Try.func6, Try.ntmps6
  go_wp2
  go_loopw [9] (fun idx wr => ∃ i : Nat, i ≤ n ∧ idx = .int .i64 (i : Int) ∧ (∀ y ∈ (nds xs).take i, GSm1 y) ∧ Below w.heap.size w wr) (fun idx _ => n - (intOf idx).toNat)
  case atStart => exact ⟨0, by omega, rfl, by simp, Below.refl _ _⟩
  case round =>
    obtain ⟨i, hi, rfl, hall, hb⟩ := hrel
    have HALL := Lib.hid hall
    have HB := Lib.hid hb
    by_cases hlt : i < n
    · obtain ⟨x, hx⟩ : ∃ x, xs[i]? = some x := ⟨_, List.getElem?_eq_getElem (by rw [HL.out]; exact hlt)⟩
      have hnr := (HNS.out.below hb)
      obtain ⟨ad, rfl, hab, k0, k1, k2, k3⟩ := nodes_cells hnr.1 i x hx
      have hmx := List.mem_of_getElem? hx
      have hfx := HF.out x hmx
      have hin : Reads wr wr.heap.size 1 x.A x.n (x.d.deps.map tsv) := Reads.more (hnr.2 x hmx) hb.size
      have HDL : Hid (x.d.deps.length = x.n) := (hnr.2 x hmx).len
      have HXD := Lib.hid (nds_at hx)
      obtain ⟨⟨nm, sc, ru, ds⟩, xA, xn, xc⟩ := x
      simp only at k0 k1 k2 k3 hfx hin HXD HDL
      have hnew := one_new wr (.cells #[.string (tx nm), .bool sc, .int .u64 ru, .slice xA xn xc] 37)
      have HNEW := Lib.hid hnew
      have p0 := at_cell (i := 0) hnew rfl
      have p1 := at_cell (i := 1) hnew rfl
      have p2 := at_cell (i := 2) hnew rfl
      have p3 := at_cell (i := 3) hnew rfl
      have hal : Below wr.heap.size wr (wr.alloc (.cells #[.string (tx nm), .bool sc, .int .u64 ru, .slice xA xn xc] 37)) := (Below.refl wr.heap.size wr).alloc (Nat.le_refl _) (.cells #[.string (tx nm), .bool sc, .int .u64 ru, .slice xA xn xc] 37)
      have HB3 := Lib.hid (hb.trans (hal.mono hb.size))
      have HIN : Hid (Reads (wr.alloc (.cells #[.string (tx nm), .bool sc, .int .u64 ru, .slice xA xn xc] 37)) wr.heap.size 1 xA xn (ds.map tsv)) := hin.below hal
      have HDF := Lib.hid hfx.1.2
      have hs0 := tx_size0 nm
      have hsl := hfx.1.1
      have hxn := hfx.2
      obtain ⟨q, hq⟩ : ∃ q, q = nm.length := ⟨_, rfl⟩
      have HQ := Lib.hid hq
      simp only at hsl
      rw [← hq] at hs0 hsl
      unfold maxLen at hsl hxn
      have hi0 : (0 : Int) ≤ (i : Int) := by omega
      have hi1 : (i : Int) < (n : Int) := by omega
      have HGM : Hid (GSm (nds xs) → GSm1 ⟨nm, sc, ru, ds⟩) := fun h => h.1 _ (List.mem_of_getElem? HXD.out)
      clear hx hnr hmx hfx hin hnew hal hb hall hq
      by_cases c1 : xn ≤ 30
      · have d1 : decide ((xn : Int) > 30) = false := decide_eq_false (by omega)
        by_cases c2 : q ≤ 100
        · have d2 : decide ((q : Int) > 100) = false := decide_eq_false (by omega)
          go_wp2
          go_loopw [26] (fun v7 w3 => ∃ (j : Nat), j ≤ xn ∧ v7 = .int .i64 (j : Int) ∧ (∀ d ∈ ds.take j, d.length ≤ 100) ∧ (wr.alloc (.cells #[.string (tx nm), .bool sc, .int .u64 ru, .slice xA xn xc] 37)) = w3) (fun v7 _ => xn - (intOf v7).toNat)
          case atStart => exact ⟨0, by omega, rfl, by simp, rfl⟩
          case round =>
            obtain ⟨j, hj, rfl, hdd, rfl⟩ := hrel
            have HDD := Lib.hid hdd
            clear hdd
            by_cases hlt3 : j < xn
            · obtain ⟨s, hs⟩ : ∃ s, ds[j]? = some s := ⟨_, List.getElem?_eq_getElem (by rw [HDL.out]; exact hlt3)⟩
              obtain ⟨ax, sv, rfl, hxb, hsv, hsc⟩ := HIN.out.at_ hlt3
              obtain rfl : sv = tsv s := by rw [List.getElem?_map, hs] at hsv; simpa using hsv.symm
              unfold tsv at hsc
              have HTK : Hid (ds.take (j + 1) = ds.take j ++ [s]) := by show _ = _; rw [List.take_add_one, hs]; rfl
              have HSM := Lib.hid (List.mem_of_getElem? hs)
              have hj0 : (0 : Int) ≤ (j : Int) := by omega
              have hj1 : (j : Int) < (xn : Int) := by omega
              have hss := tx_size0 s
              have hsl2 := HDF.out s HSM.out
              obtain ⟨p, hp⟩ : ∃ p, p = s.length := ⟨_, rfl⟩
              have HP := Lib.hid hp
              rw [← hp] at hss hsl2
              unfold maxLen at hsl2
              clear hs hsv hp
              by_cases c3 : p ≤ 100
              · have d3 : decide ((p : Int) > 100) = false := decide_eq_false (by omega)
                have HD2 : Hid (∀ d ∈ ds.take (j + 1), d.length ≤ 100) := fun d hd => by
                  rw [HTK.out] at hd
                  rcases List.mem_append.1 hd with hd | hd
                  · exact HDD.out d hd
                  · rw [List.mem_singleton.1 hd, ← HP.out]; exact c3
                go_wp2
                exact ⟨⟨j + 1, by omega, by go_num, HD2.out, by first | rfl | trivial⟩, by simp [intOf]; omega⟩
              · have d3 : decide ((p : Int) > 100) = true := decide_eq_true (by omega)
                have HNO : Hid (¬ GSm (nds xs)) := fun h => c3 (by rw [HP.out]; exact (HGM.out h).2.2 s HSM.out)
                go_wp2
                go_ret
                exact ⟨tells_true HNO.out, HB3.out⟩
            · obtain rfl : xn = j := by omega
              rw [List.take_of_length_le (by rw [HDL.out]; omega)] at HDD
              have HA2 := Lib.hid (gsm_step HXD.out HALL.out ⟨by rw [HDL.out]; exact c1, by show nm.length ≤ 100; rw [← HQ.out]; exact c2, HDD.out⟩)
              go_wp2
              exact ⟨⟨i + 1, by omega, by go_num, HA2.out, HB3.out⟩, by simp [intOf]; omega⟩
        · have d2 : decide ((q : Int) > 100) = true := decide_eq_true (by omega)
          have HNO : Hid (¬ GSm (nds xs)) := fun h => c2 (by rw [HQ.out]; exact (HGM.out h).2.1)
          go_wp2
          go_ret
          exact ⟨tells_true HNO.out, HB3.out⟩
      · have d1 : decide ((xn : Int) > 30) = true := decide_eq_true (by omega)
        have HNO : Hid (¬ GSm (nds xs)) := fun h => c1 (by rw [← HDL.out]; exact (HGM.out h).1)
        go_wp2
        go_ret
        exact ⟨tells_true HNO.out, HB3.out⟩
    · obtain rfl : n = i := by omega
      rw [List.take_of_length_le (by rw [HLD.out]; omega)] at HALL
      clear hb hall
      by_cases c1 : n ≤ 80
      · have d1 : decide ((n : Int) > 80) = false := decide_eq_false (by omega)
        have HNO : Hid (¬ ¬ GSm (nds xs)) := fun h => h ⟨HALL.out, by rw [HLD.out]; exact c1⟩
        have END : Hid (∀ b : Bool, b = false → Tells (¬ GSm (nds xs)) (.returned (.bool b))) := fun b h => h ▸ tells_false HNO.out
        go_wp2
        go_ret
        exact ⟨END.out _ (by first | rfl | (simp; omega)), HB.out⟩
      · have d1 : decide ((n : Int) > 80) = true := decide_eq_true (by omega)
        have HNO : Hid (¬ GSm (nds xs)) := fun h => c1 (by rw [← HLD.out]; exact h.2)
        have END : Hid (∀ b : Bool, b = true → Tells (¬ GSm (nds xs)) (.returned (.bool b))) := fun b h => h ▸ tells_true HNO.out
        go_wp2
        go_ret
        exact ⟨END.out _ (by first | rfl | (simp; omega)), HB.out⟩

end Go.Proofs.Ytacjiojfjkonkaa

/- RuleOnly. -/
namespace Go.Proofs.Ytacjiojfjkonkaa
open Go.RowKit Go.Sort

/-- A cut: behind the first piece M holds, and M is enough for what comes. -/
theorem wp_cut22 {P : Program} {c : Code} {Q : Exit → Act → World → Prop} {K : Act → World → Prop} {a : Act} {w : World} (M : Act → World → Prop) (hm : ∀ a w, M a w → K a w) (h : c.wp P (Exit.then M Q) a w) : c.wp P (Exit.then K Q) a w :=
  Code.wp_mono (fun e a w q => by cases e <;> first | exact hm _ _ q | exact q) h
theorem own_emptyS (w : World) (e : TypeId) (size : Nat) : (w.alloc (.cells #[] e)).ownsRow w.heap.size e size (.slice (some ⟨w.heap.size, 0, none⟩) 0 0) 0 [] :=
  ⟨by simp, .inr ⟨w.heap.size, 0, #[], rfl, Nat.le_refl _, (by show (w.heap.push _)[w.heap.size]? = _; exact Array.getElem?_push_size), Nat.le_refl _, by unfold maxLen; omega, by simp, by simp⟩⟩
theorem sts_snoc (l : List Stp) (x : Stp) : sts (l ++ [x]) = sts l ++ x.cells := by rw [sts_app]; simp [sts]
theorem reads_at {W : World} {g : Nat} {a b c : Value} {t : TypeId} (h : W.heap[g]? = some (.cells #[a, b, c] t)) : Reads W W.heap.size 3 (some ⟨g, 0, none⟩) 1 [a, b, c] :=
  ⟨rfl, fun _ => ⟨_, rfl, (Array.getElem?_eq_some_iff.1 h).1, fun j u hu => by
    have e : (⟨g, 0, none⟩ : Addr).add j = ⟨g, j, none⟩ := by
      unfold Addr.add
      split
      · rename_i h; rw [h]
      · simp
    rw [e]
    exact at_cell h ((List.getElem?_toArray ..).trans hu)⟩⟩

theorem clean_badz (A : Option Addr) (n c : Nat) (xs : List Nw) (hn : n ≤ 1000000) (hok : NOk xs) (hc0 : chk (nds xs) ≠ 0) (g : Value) (w : World) (h : Nodes w w.heap.size A n xs) :
    Calls Try.prog 9 #[.slice A n c, g] w fun e w' => e = .returned (.tuple #[.slice none 0 0, .int .i64 (chk (nds xs))]) ∧ Below w.heap.size w w' :=
  Calls.mono (clean_bad A n c xs hn hok hc0 g w h) (fun e w' ⟨⟨z, h1, h2⟩, hb⟩ => ⟨by rw [h2, h1], hb⟩)

set_option maxRecDepth 100000 in
set_option maxHeartbeats 8000000 in
theorem ronly_any (A : Option Addr) (n c : Nat) (xs : List Nw) (hnc : n ≤ c) (hcm : c ≤ maxLen) (G : Option Addr) (gn gc : Nat) (gs : List Stp) (hgm : gn ≤ maxLen) (hga : G = none → gc = 0) (o : Stp) (hol : o.name.length ≤ maxLen) (w : World) (hg : ∀ x ∈ xs, NGood w x ∧ RuleOk x.d) (h : Nodes w w.heap.size A n xs) (hgl : ∀ x ∈ gs, x.name.length ≤ maxLen) (hs : Steps w w.heap.size G gn gs) :
    Calls Try.prog 5 #[.slice A n c, .slice G gn gc, o.val] w fun e w' => e = .returned (.bool true) ∧ Below w.heap.size w w' := by
  have HL : Hid (xs.length = n) := h.len
  have HLD : Hid ((nds xs).length = n) := by show _ = _; rw [nds_len]; exact h.len
  have HG := Lib.hid (fun (W : World) (hb : Below w.heap.size w W) => ggreat_any A n c xs (by omega) (fun x hx => ⟨(hg x hx).1.1, by have := (hg x hx).1.2.1; have := (hg x hx).1.2.2.1; omega⟩) W ((h.below hb).more hb.size))
  have HFW := Lib.hid (fun (W : World) (hb : Below w.heap.size w W) => few_any G gn gc gs hgm hgl W ((hs.below hb).more hb.size))
  obtain ⟨onm, ora, oq⟩ := o
  obtain ⟨oc, hoc⟩ : ∃ oc : Int, qv oq = .int .u64 oc := ⟨_, rfl⟩
  have HOC := Lib.hid hoc
  unfold Stp.val
  simp only at hol ⊢
  rw [hoc]
  clear hoc
  have H0 := Lib.hid (one_new w (.cells #[.string (tx onm), .bool ora, .int .u64 oc] 44))
  have HB0 := Lib.hid ((Below.refl w.heap.size w).alloc (Nat.le_refl _) (.cells #[.string (tx onm), .bool ora, .int .u64 oc] 44))
  have HS0 : Hid (w.heap.size < (w.alloc (.cells #[.string (tx onm), .bool ora, .int .u64 oc] 44)).heap.size) := by show w.heap.size < _; simp
  have p0 := at_cell (i := 0) H0.out rfl
  have p1 := at_cell (i := 1) H0.out rfl
  have p2 := at_cell (i := 2) H0.out rfl
  obtain ⟨q, hq⟩ : ∃ q, q = onm.length := ⟨_, rfl⟩
  have hs0 := tx_size0 onm
  rw [← hq] at hs0
  have hq63 : (q : Int) ≤ 9223372036854775807 := by rw [hq]; unfold maxLen at hol; omega
  have hgn63 : (gn : Int) ≤ 9223372036854775807 := by unfold maxLen at hgm; omega
  by_cases gsm : GSm (nds xs)
  · have GS := Lib.hid gsm
    by_cases fw : FewS gs
    · have FWH := Lib.hid fw
      by_cases h90 : gn ≤ 90
      · have d90 : decide ((gn : Int) > 90) = false := decide_eq_false (by omega)
        by_cases hq100 : q ≤ 100
        · have dq : decide ((q : Int) > 100) = false := decide_eq_false (by omega)
          have hn80 : n ≤ 80 := by rw [← HLD.out]; exact gsm.2
          have hd30 : ∀ x ∈ xs, x.n ≤ 30 := fun x hx => by
            have h1 := (gsm.1 x.d (List.mem_map.2 ⟨x, hx, rfl⟩)).1
            rw [(h.2 x hx).len] at h1
            exact h1
          have hok : NOk xs := fun x hx => ⟨(hg x hx).1.1, by have := hd30 x hx; omega⟩
          have hok2 : ∀ x ∈ xs, NFits x.d ∧ x.n ≤ 1000 := fun x hx => ⟨(hg x hx).1.1, by have := hd30 x hx; omega⟩
          have hru : ∀ x ∈ xs, RuleOk x.d ∧ x.n ≤ 1000 := fun x hx => ⟨(hg x hx).2, by have := hd30 x hx; omega⟩
          have HNS := Lib.hid h
          have HF := Lib.hid hok2
          have HGA := Lib.hid hga
          have HGN : Hid (gn ≤ 90) := h90
          have HGS := Lib.hid (fun (W : World) (hb : Below w.heap.size w W) => (hs.below hb).more hb.size)
          obtain ⟨ii, hi0, hz0, hz1, hz2⟩ := info_parts info_step
          by_cases hc0 : chk (nds xs) = 0
          · have HC := Lib.hid (fun (W : World) (hb : Below w.heap.size w W) => clean_ok A n c xs (by omega) hok hru hc0 G gn gc gs (by omega) W ((h.below hb).more hb.size) ((hs.below hb).more hb.size))
            have HC2 := Lib.hid (fun (W : World) (hb : Below w.heap.size w W) (G9 : Option Addr) (c9 : Nat) (hs9 : Steps W W.heap.size G9 (gn + 1) (gs ++ [(⟨onm, ora, oq⟩ : Stp)])) => clean_ok A n c xs (by omega) hok hru hc0 G9 (gn + 1) c9 (gs ++ [(⟨onm, ora, oq⟩ : Stp)]) (by omega) W ((h.below hb).more hb.size) hs9)
            have HAB := Lib.hid (fun (W : World) (hb : Below w.heap.size w W) => above_any A n c xs onm hol (by omega) hok2 W ((h.below hb).more hb.size))
            have HBOTH := Lib.hid (fun (i : Nat) (hi : i < n) => both_at hc0 gs (⟨onm, ora, oq⟩ : Stp) (i := i) (by rw [HLD.out]; exact hi))
            have HND := Lib.hid (chk_ok.1 hc0).2.1
            have HPND := Lib.hid (nmO_nodup (nds xs))
            rw [← show (nds xs).length = n from HLD.out] at HC HC2
            rw [show (nds xs).length = n from HLD.out] at HC HC2 HBOTH
            obtain ⟨La, hLa⟩ : ∃ La, La = clN (nds xs) gs (ord (nds xs)) n := ⟨_, rfl⟩
            obtain ⟨Lb, hLb⟩ : ∃ Lb, Lb = clN (nds xs) (gs ++ [(⟨onm, ora, oq⟩ : Stp)]) (ord (nds xs)) n := ⟨_, rfl⟩
            rw [← hLa] at HC HBOTH
            rw [← hLb] at HC2 HBOTH
            clear hok hok2 hru hc0 hg h hgl hs gsm fw hd30 hga hq hol hLa hLb
            go_enter Try.func5, Try.ntmps5
            go_wp2_with (first
              | (go_at_call 9; refine (HC.out _ HB3.out).mono ?_; rintro e w4 ⟨⟨A7, c7, rfl, ho4⟩, hb4⟩; have HR4 : Hid (Steps w4 w4.heap.size A7 n La) := Reads.of_own ho4; clear ho4; have HB4 := Lib.hid (HB3.out.trans (hb4.mono HB3.out.size)); have HN4 := Lib.hid ((hb4.block w.heap.size HS3.out).trans HN3.out); have HS4 : Hid (w.heap.size < w4.heap.size) := Nat.lt_of_lt_of_le HS3.out hb4.size; clear hb4)
              | (go_at_call 7; refine (HFW.out _ HB2.out).mono ?_; rintro e w3 ⟨he3, hb3⟩; obtain rfl := he3.yes FWH.out; have HB3 := Lib.hid (HB2.out.trans (hb3.mono HB2.out.size)); have HN3 := Lib.hid ((hb3.block w.heap.size HS2.out).trans HN2.out); have HS3 : Hid (w.heap.size < w3.heap.size) := Nat.lt_of_lt_of_le HS2.out hb3.size; have p0 := at_cell (i := 0) HN3.out rfl; have p1 := at_cell (i := 1) HN3.out rfl; have p2 := at_cell (i := 2) HN3.out rfl; clear hb3)
              | (go_at_call 6; refine (HG.out _ HB0.out).mono ?_; rintro e w2 ⟨he, hb2⟩; obtain rfl := he.no (fun h => h GS.out); have HB2 := Lib.hid (HB0.out.trans (hb2.mono HB0.out.size)); have HN2 := Lib.hid ((hb2.block w.heap.size HS0.out).trans H0.out); have HS2 : Hid (w.heap.size < w2.heap.size) := Nat.lt_of_lt_of_le HS0.out hb2.size; have p0 := at_cell (i := 0) HN2.out rfl; have p1 := at_cell (i := 1) HN2.out rfl; have p2 := at_cell (i := 2) HN2.out rfl; clear hb2))
            obtain ⟨M, hM⟩ : ∃ M : Act → World → Prop, M = (fun a v => ∃ (v3 v4 v11 v12 v13 v14 v15 v16 v17 v18 v19 v20 v21 v22 v23 v24 v25 v26 v27 v28 v29 v30 v31 v32 v33 v34 v35 v36 v37 v38 v39 v40 v41 v42 v43 v44 v45 v46 v47 v48 v49 v50 v51 v52 : Value) (A9 : Option Addr) (c9 : Nat), a = ({ tmps := #[.slice A n c, .slice G gn gc, .agg #[.string (tx onm), .bool ora, .int .u64 oc], v3, v4, .pointer (some ⟨w.heap.size, 0, none⟩), .bool false, .slice A7 n c7, .int .i64 0, .slice A9 n c9, .int .i64 0, v11, v12, v13, v14, v15, v16, v17, v18, v19, v20, v21, v22, v23, v24, v25, v26, v27, v28, v29, v30, v31, v32, v33, v34, v35, v36, v37, v38, v39, v40, v41, v42, v43, v44, v45, v46, v47, v48, v49, v50, v51, v52, undef, undef, undef, undef, undef, undef, undef, undef, undef, undef, undef, undef, undef, undef, undef, undef, undef, undef, undef, undef, undef, undef, undef, undef, undef, undef, undef, undef, undef, undef, undef, undef, undef, undef, undef, undef, undef, undef, undef, undef, undef, undef, undef, undef, undef, undef, undef, undef, undef, undef, undef, undef, undef, undef, undef, undef, undef, undef, undef, undef, undef, undef, undef, undef, undef, undef, undef, undef, undef, undef, undef, undef, undef, undef, undef, undef, undef, undef, undef, undef, undef, undef, undef, undef, undef, undef, undef, undef, undef, undef, undef, undef, undef, undef, undef, undef, undef, undef, undef, undef, undef, undef, undef, undef, undef, undef, undef, undef, undef, undef, undef, undef, undef, undef, undef, undef, undef, undef, undef, undef, undef, undef, undef, undef, undef, undef, undef, undef, undef, undef, undef, undef, undef, undef, undef, undef, undef, undef, undef, undef], defers := [] } : Act) ∧ Below w4.heap.size w4 v ∧ Steps v v.heap.size A9 n Lb) := ⟨_, rfl⟩
            have HM := Lib.hid hM
            clear hM
            refine wp_cut22 M ?_ ?_
            · intro a v hM
              rw [HM.out] at hM
              obtain ⟨v3, v4, v11, v12, v13, v14, v15, v16, v17, v18, v19, v20, v21, v22, v23, v24, v25, v26, v27, v28, v29, v30, v31, v32, v33, v34, v35, v36, v37, v38, v39, v40, v41, v42, v43, v44, v45, v46, v47, v48, v49, v50, v51, v52, A9, c9, rfl, hb, hr9⟩ := hM
              have HBV := Lib.hid (HB4.out.trans (hb.mono HB4.out.size))
              have HNV := Lib.hid ((hb.block w.heap.size HS4.out).trans HN4.out)
              have HSV : Hid (w.heap.size < v.heap.size) := Nat.lt_of_lt_of_le HS4.out hb.size
              have HR7 := Lib.hid ((HR4.out.below hb).more hb.size)
              have HR9 := Lib.hid hr9
              have p0 := at_cell (i := 0) HNV.out rfl
              have hmm := @run_makeMap Try.prog
              clear hb hr9 HM
              go_wp2_with (go_at_call 16; refine (HAB.out _ HBV.out).mono ?_; rintro e w5 ⟨⟨o5, A5, c5, hi5, rfl, _, ho5⟩, hb5⟩; have HI5 := Lib.hid hi5; have HR5 := Lib.hid (Reads.of_own ho5); have HB5 := Lib.hid (HBV.out.trans (hb5.mono HBV.out.size)); have HN5 := Lib.hid ((hb5.block w.heap.size HSV.out).trans HNV.out); have HS5 : Hid (w.heap.size < w5.heap.size) := Nat.lt_of_lt_of_le HSV.out hb5.size; have HR75 := Lib.hid ((HR7.out.below hb5).more hb5.size); have HR95 := Lib.hid ((HR9.out.below hb5).more hb5.size); clear hi5 ho5 hb5)
              obtain ⟨m5, hm5⟩ : ∃ m5, m5 = o5.length := ⟨_, rfl⟩
              rw [← hm5] at HR5 ⊢
              have hm80 : m5 ≤ 1000 := by have := isAbv_len HI5.out; rw [HLD.out] at this; omega
              have HT0 := Lib.hid (tmap_start w5)
              have HA5 := Lib.hid ((Below.refl w5.heap.size w5).alloc (Nat.le_refl _) (.map #[] 0))
              clear hm5
              go_loopw [92] (fun idx wr => ∃ i : Nat, i ≤ n ∧ idx = .int .i64 (i : Int) ∧ TMap wr w5.heap.size i (atG (fun p => .bool (!(decide (conA La p = conA Lb p)))) (nmO (nds xs)) i) ∧ Below w5.heap.size w5 wr) (fun idx _ => n - (intOf idx).toNat)
              case atStart => exact ⟨0, by omega, rfl, HT0.out.same (fun u => by simp [atG]), HA5.out⟩
              case round =>
                obtain ⟨i, hi, rfl, htm, hb⟩ := hrel
                have HTwr := Lib.hid htm
                have HBwr := Lib.hid hb
                by_cases hlt : i < n
                · obtain ⟨j, xd, rn, qa, qb, hj, hxj, hnm, hsa, hsb, hca, hcb, hch, hone⟩ := HBOTH.out i hlt
                  obtain ⟨nm, hnx⟩ : ∃ nm, nm = xd.name := ⟨_, rfl⟩
                  rw [← hnx] at hnm hsa hsb hch
                  obtain ⟨ad7, rfl, _, j0, j1, j2⟩ := steps_cells (HR75.out.below hb) i _ hsa
                  obtain ⟨ad9, rfl, _, k0, k1, k2⟩ := steps_cells (HR95.out.below hb) i _ hsb
                  have o0 := at_cell (i := 0) ((hb.block w.heap.size HS5.out).trans HN5.out) rfl
                  have HXJ := Lib.hid hxj
                  have HXN := Lib.hid hnx
                  have HNM := Lib.hid hnm
                  have HCA := Lib.hid hca
                  have HCB := Lib.hid hcb
                  have HCH := Lib.hid hch
                  have HONE := Lib.hid hone
                  have HNML : Hid (nm.length ≤ maxLen) := by
                    obtain ⟨y, hy, e⟩ := List.mem_map.1 (List.mem_of_getElem? hxj)
                    have := (HF.out y hy).1.1
                    rw [e, ← hnx] at this
                    exact this
                  have HI1 : Hid (i < n) := hlt
                  have hi0' : (0 : Int) ≤ (i : Int) := by omega
                  have hi1' : (i : Int) < (n : Int) := by omega
                  have hself : ((tx nm).toList == (tx nm).toList) = true := beq_self_eq_true _
                  obtain ⟨ea, hea⟩ : ∃ ea : Int, qv qa = .int .u64 ea := ⟨_, rfl⟩
                  obtain ⟨eb, heb⟩ : ∃ eb : Int, qv qb = .int .u64 eb := ⟨_, rfl⟩
                  simp only at j0 j1 j2 k0 k1 k2
                  rw [hea] at j2
                  rw [heb] at k2
                  clear hj hxj hnm hsa hsb hca hcb hch hone hnx htm hb hlt
                  by_cases hq2 : qa = qb
                  · have HEQ := Lib.hid hq2
                    subst hq2
                    obtain rfl : ea = eb := by rw [hea] at heb; injection heb
                    have HSTEP : Hid (∀ W, TMap W w5.heap.size (i + 1) (fput (atG (fun p => .bool (!(decide (conA La p = conA Lb p)))) (nmO (nds xs)) i) nm (.bool (!true))) → TMap W w5.heap.size (i + 1) (atG (fun p => .bool (!(decide (conA La p = conA Lb p)))) (nmO (nds xs)) (i + 1))) := fun W hW => hW.same (fun u => by
                      have h1 := atG_step (g := (fun p => .bool (!(decide (conA La p = conA Lb p))))) HPND.out HNM.out u
                      simp only [HCA.out, HCB.out, decide_true] at h1
                      exact h1)
                    clear hea heb
                    go_wp2
                    go_quiet (fail)
                    generalize hwwE : World.drewN _ _ = wE
                    have HHwE : Hid (wE.heap = wr.heap) := by show _ = _; rw [← hwwE]; rfl
                    have HBwE : Hid (Below w5.heap.size w5 wE) := by show Below _ _ _; rw [← hwwE]; exact ⟨HBwr.out.os, HBwr.out.tape, HBwr.out.output, HBwr.out.size, HBwr.out.block⟩
                    have HTwE : Hid (TMap wE w5.heap.size i (atG (fun p => .bool (!(decide (conA La p = conA Lb p)))) (nmO (nds xs)) i)) := HTwr.out.at_heap (by rw [HHwE.out])
                    clear hwwE
                    replace j0 := (at_heap HHwE.out _).trans j0
                    replace j1 := (at_heap HHwE.out _).trans j1
                    replace j2 := (at_heap HHwE.out _).trans j2
                    replace k0 := (at_heap HHwE.out _).trans k0
                    replace k1 := (at_heap HHwE.out _).trans k1
                    replace k2 := (at_heap HHwE.out _).trans k2
                    replace o0 := (at_heap HHwE.out _).trans o0
                    go_wp2
                    go_quiet (fail)
                    generalize hwwG : World.drewN _ _ = wG
                    have HHwG : Hid (wG.heap = wE.heap) := by show _ = _; rw [← hwwG]; rfl
                    have HBwG : Hid (Below w5.heap.size w5 wG) := by show Below _ _ _; rw [← hwwG]; exact ⟨HBwE.out.os, HBwE.out.tape, HBwE.out.output, HBwE.out.size, HBwE.out.block⟩
                    have HTwG : Hid (TMap wG w5.heap.size i (atG (fun p => .bool (!(decide (conA La p = conA Lb p)))) (nmO (nds xs)) i)) := HTwE.out.at_heap (by rw [HHwG.out])
                    clear hwwG
                    replace j0 := (at_heap HHwG.out _).trans j0
                    replace j1 := (at_heap HHwG.out _).trans j1
                    replace j2 := (at_heap HHwG.out _).trans j2
                    replace k0 := (at_heap HHwG.out _).trans k0
                    replace k1 := (at_heap HHwG.out _).trans k1
                    replace k2 := (at_heap HHwG.out _).trans k2
                    replace o0 := (at_heap HHwG.out _).trans o0
                    go_wp2
                    go_quiet (fail)
                    generalize hww7 : World.drewN _ _ = w7
                    have HHw7 : Hid (w7.heap = wG.heap) := by show _ = _; rw [← hww7]; rfl
                    have HBw7 : Hid (Below w5.heap.size w5 w7) := by show Below _ _ _; rw [← hww7]; exact ⟨HBwG.out.os, HBwG.out.tape, HBwG.out.output, HBwG.out.size, HBwG.out.block⟩
                    have HTw7 : Hid (TMap w7 w5.heap.size i (atG (fun p => .bool (!(decide (conA La p = conA Lb p)))) (nmO (nds xs)) i)) := HTwG.out.at_heap (by rw [HHw7.out])
                    clear hww7
                    replace j0 := (at_heap HHw7.out _).trans j0
                    replace j1 := (at_heap HHw7.out _).trans j1
                    replace j2 := (at_heap HHw7.out _).trans j2
                    replace k0 := (at_heap HHw7.out _).trans k0
                    replace k1 := (at_heap HHw7.out _).trans k1
                    replace k2 := (at_heap HHw7.out _).trans k2
                    replace o0 := (at_heap HHw7.out _).trans o0
                    go_wp2
                    have HB57 := HBw7
                    have HBW7 := Lib.hid (HB5.out.trans (HBw7.out.mono HB5.out.size))
                    clear j1 j2 k0 k1 k2 o0
                    go_loopw [154] (fun v154 wr => ∃ k : Nat, k ≤ n ∧ v154 = .int .i64 (k : Int) ∧ Below w7.heap.size w7 wr) (fun v154 _ => n - (intOf v154).toNat)
                    case atStart => exact ⟨0, by omega, rfl, Below.refl _ _⟩
                    case round =>
                      obtain ⟨k, hk, rfl, hb⟩ := hrel
                      have HBK := Lib.hid hb
                      have l0 := (hb.cell (cell_lt j0)).trans j0
                      by_cases hlt2 : k < n
                      · obtain ⟨y, hy⟩ : ∃ y, xs[k]? = some y := ⟨_, List.getElem?_eq_getElem (by rw [HL.out]; exact hlt2)⟩
                        have hbw := HBW7.out.trans (hb.mono HBW7.out.size)
                        obtain ⟨ad, rfl, hab, y0, y1, y2, y3⟩ := nodes_cells (HNS.out.below hbw).1 k y hy
                        have hyin := HNS.out.2 y (List.mem_of_getElem? hy)
                        have HYL : Hid (y.d.deps.length = y.n) := hyin.len
                        have hyd := nds_at hy
                        have HYX : Hid (y.d.name = nm → y.d.deps = xd.deps) := fun e => by
                          have h1 := nodup_at HND.out hyd HXJ.out (by rw [e]; exact HXN.out)
                          rw [h1, HXJ.out] at hyd
                          rw [Option.some.inj hyd]
                        have HYR := Lib.hid ((show Reads w w.heap.size 1 y.A y.n (y.d.deps.map tsv) from hyin).below hbw)
                        have hyn : y.n ≤ 1000 := (HF.out y (List.mem_of_getElem? hy)).2
                        have HDLS : Hid (∀ d ∈ y.d.deps, d.length ≤ maxLen) := (HF.out y (List.mem_of_getElem? hy)).1.2
                        have hk0 : (0 : Int) ≤ (k : Int) := by omega
                        have hk1 : (k : Int) < (n : Int) := by omega
                        obtain ⟨⟨ynm, ysc, yru, yds⟩, yA, yn, yc⟩ := y
                        simp only at y0 y1 y2 y3 HYL HYX HYR hyn HDLS
                        have hnew := one_new wr (.cells #[.string (tx ynm), .bool ysc, .int .u64 yru, .slice yA yn yc] 37)
                        have hal : Below wr.heap.size wr (wr.alloc (.cells #[.string (tx ynm), .bool ysc, .int .u64 yru, .slice yA yn yc] 37)) := (Below.refl _ _).alloc (Nat.le_refl _) _
                        have HBA := Lib.hid (hb.trans (hal.mono hb.size))
                        have b0 := at_cell (i := 0) hnew rfl
                        have b1 := at_cell (i := 1) hnew rfl
                        have b2 := at_cell (i := 2) hnew rfl
                        have b3 := at_cell (i := 3) hnew rfl
                        have l0' := (hal.cell (cell_lt l0)).trans l0
                        have HTMA := Lib.hid ((HTw7.out.below (hb.trans (hal.mono hb.size)) : TMap (wr.alloc (.cells #[.string (tx ynm), .bool ysc, .int .u64 yru, .slice yA yn yc] 37)) w5.heap.size i _))
                        have HK1 : Hid (k < n) := hlt2
                        by_cases hn2 : ynm = nm
                        · have he : ((tx ynm).toList == (tx nm).toList) = true := by rw [hn2]; exact beq_self_eq_true _
                          by_cases h1 : yn = 1
                          · obtain ⟨d, hd⟩ : ∃ d, yds = [d] := List.length_eq_one_iff.1 (by rw [HYL.out]; exact h1)
                            have hxd : xd.deps = [d] := by rw [← HYX.out hn2]; exact hd
                            obtain ⟨p, hp, hpd, hiff⟩ := HONE.out d hxd
                            obtain ⟨ax, sv, rfl, hxb, hsv, hsc⟩ := HYR.out.at_ (k := 0) (by omega)
                            obtain rfl : sv = tsv d := by rw [hd] at hsv; simpa using hsv.symm
                            unfold tsv at hsc
                            have hdl : d.length ≤ maxLen := HDLS.out d (by rw [hd]; simp)
                            rw [show ax.add 0 = ax from by unfold Addr.add; simp] at hsc
                            have hsc2 := (hal.cell (cell_lt hsc)).trans hsc
                            have hdec : (decide (conA La p = conA Lb p)) = true := decide_eq_true (hiff.1 HEQ.out)
                            have hlook : ∀ dq : Nat, (Instr.lookup 46 (.map (some w5.heap.size)) (.string (tx d)) false).run Try.prog ((wr.alloc (.cells #[.string (tx ynm), .bool ysc, .int .u64 yru, .slice (some ax) yn yc] 37)).drewN dq) = .ok (.bool (!true)) ((wr.alloc (.cells #[.string (tx ynm), .bool ysc, .int .u64 yru, .slice (some ax) yn yc] 37)).drewN dq) := fun dq => by
                              have h := TMap.look (w := (wr.alloc (.cells #[.string (tx ynm), .bool ysc, .int .u64 yru, .slice (some ax) yn yc] 37)).drewN dq) HTMA.out hdl Try.underlying46 (zeroB _)
                              rw [atG_get HPND.out hp hpd, hdec] at h
                              exact h
                            subst h1
                            subst hn2
                            clear hy hbw hyin hyd hd hxd hp hpd hiff hsv hdec hdl hsc hb hlt2
                            go_wp2
                            go_quiet (fail)
                            go_wp2
                            exact ⟨⟨k + 1, HK1.out, by go_num, ⟨HBA.out.os, HBA.out.tape, HBA.out.output, HBA.out.size, HBA.out.block⟩⟩, by have := HK1.out; simp [intOf]; omega⟩
                          · have he1 : ((yn : Int) == 1) = false := by rw [beq_eq_false_iff_ne]; omega
                            have he2 : ¬ (yn : Int) = 1 := by omega
                            have he3 : ¬ yn = 1 := h1
                            subst hn2
                            clear hy hbw hyin hyd hb hlt2
                            go_wp2
                            go_quiet (fail)
                            go_wp2
                            exact ⟨⟨k + 1, HK1.out, by go_num, ⟨HBA.out.os, HBA.out.tape, HBA.out.output, HBA.out.size, HBA.out.block⟩⟩, by have := HK1.out; simp [intOf]; omega⟩
                        · have he : ((tx ynm).toList == (tx nm).toList) = false := by
                            rw [beq_eq_false_iff_ne]
                            intro e2
                            exact hn2 (by simpa [tx] using e2)
                          clear hy hbw hyin hyd hb hlt2
                          go_wp2
                          go_quiet (fail)
                          go_wp2
                          exact ⟨⟨k + 1, HK1.out, by go_num, ⟨HBA.out.os, HBA.out.tape, HBA.out.output, HBA.out.size, HBA.out.block⟩⟩, by have := HK1.out; simp [intOf]; omega⟩
                      · obtain rfl : k = n := by omega
                        have HTMB := Lib.hid (HTw7.out.below hb)
                        clear hlt2 hb
                        go_wp2_with (at_mapUpdate; refine wpList_tput _ rfl _ _ _ 46 rfl 4 Try.underlying46 w5.heap.size i _ rfl HTMB.out (by unfold maxLen; omega) nm (.bool (!true)) rfl rfl HNML.out ?_; intro w8 ht8 hg8; have HT8 := Lib.hid ht8; have HB8 := Lib.hid ((HB57.out.trans (HBK.out.mono HB57.out.size)).grown hg8 (Nat.le_trans HB57.out.size HBK.out.size) (fun j hj => by cases hj; exact Nat.le_refl _)); clear ht8 hg8)
                        exact ⟨⟨i + 1, by have := HI1.out; omega, by go_num, HSTEP.out _ HT8.out, HB8.out⟩, by have := HI1.out; simp [intOf]; omega⟩
                  · have HEQ := Lib.hid hq2
                    have hne : (ea == eb) = false := by
                      rw [beq_eq_false_iff_ne]
                      intro e
                      rw [e, ← heb] at hea
                      exact hq2 (qv_inj hea)
                    have HSTEP : Hid (∀ W, TMap W w5.heap.size (i + 1) (fput (atG (fun p => .bool (!(decide (conA La p = conA Lb p)))) (nmO (nds xs)) i) nm (.bool (!false))) → TMap W w5.heap.size (i + 1) (atG (fun p => .bool (!(decide (conA La p = conA Lb p)))) (nmO (nds xs)) (i + 1))) := fun W hW => hW.same (fun u => by
                      have h1 := atG_step (g := (fun p => .bool (!(decide (conA La p = conA Lb p))))) HPND.out HNM.out u
                      simp only [HCA.out, HCB.out, decide_eq_false HEQ.out] at h1
                      exact h1)
                    have hled := HCH.out hq2
                    clear hea heb hq2
                    by_cases hno : nm = onm
                    · have heo : ((tx nm).toList == (tx onm).toList) = true := by rw [hno]; exact beq_self_eq_true _
                      clear hled hno
                      go_wp2
                      go_quiet (fail)
                      generalize hwwE : World.drewN _ _ = wE
                      have HHwE : Hid (wE.heap = wr.heap) := by show _ = _; rw [← hwwE]; rfl
                      have HBwE : Hid (Below w5.heap.size w5 wE) := by show Below _ _ _; rw [← hwwE]; exact ⟨HBwr.out.os, HBwr.out.tape, HBwr.out.output, HBwr.out.size, HBwr.out.block⟩
                      have HTwE : Hid (TMap wE w5.heap.size i (atG (fun p => .bool (!(decide (conA La p = conA Lb p)))) (nmO (nds xs)) i)) := HTwr.out.at_heap (by rw [HHwE.out])
                      clear hwwE
                      replace j0 := (at_heap HHwE.out _).trans j0
                      replace j1 := (at_heap HHwE.out _).trans j1
                      replace j2 := (at_heap HHwE.out _).trans j2
                      replace k0 := (at_heap HHwE.out _).trans k0
                      replace k1 := (at_heap HHwE.out _).trans k1
                      replace k2 := (at_heap HHwE.out _).trans k2
                      replace o0 := (at_heap HHwE.out _).trans o0
                      go_wp2
                      go_quiet (fail)
                      generalize hwwG : World.drewN _ _ = wG
                      have HHwG : Hid (wG.heap = wE.heap) := by show _ = _; rw [← hwwG]; rfl
                      have HBwG : Hid (Below w5.heap.size w5 wG) := by show Below _ _ _; rw [← hwwG]; exact ⟨HBwE.out.os, HBwE.out.tape, HBwE.out.output, HBwE.out.size, HBwE.out.block⟩
                      have HTwG : Hid (TMap wG w5.heap.size i (atG (fun p => .bool (!(decide (conA La p = conA Lb p)))) (nmO (nds xs)) i)) := HTwE.out.at_heap (by rw [HHwG.out])
                      clear hwwG
                      replace j0 := (at_heap HHwG.out _).trans j0
                      replace j1 := (at_heap HHwG.out _).trans j1
                      replace j2 := (at_heap HHwG.out _).trans j2
                      replace k0 := (at_heap HHwG.out _).trans k0
                      replace k1 := (at_heap HHwG.out _).trans k1
                      replace k2 := (at_heap HHwG.out _).trans k2
                      replace o0 := (at_heap HHwG.out _).trans o0
                      go_wp2
                      go_quiet (fail)
                      generalize hww7 : World.drewN _ _ = w7
                      have HHw7 : Hid (w7.heap = wG.heap) := by show _ = _; rw [← hww7]; rfl
                      have HBw7 : Hid (Below w5.heap.size w5 w7) := by show Below _ _ _; rw [← hww7]; exact ⟨HBwG.out.os, HBwG.out.tape, HBwG.out.output, HBwG.out.size, HBwG.out.block⟩
                      have HTw7 : Hid (TMap w7 w5.heap.size i (atG (fun p => .bool (!(decide (conA La p = conA Lb p)))) (nmO (nds xs)) i)) := HTwG.out.at_heap (by rw [HHw7.out])
                      clear hww7
                      replace j0 := (at_heap HHw7.out _).trans j0
                      replace j1 := (at_heap HHw7.out _).trans j1
                      replace j2 := (at_heap HHw7.out _).trans j2
                      replace k0 := (at_heap HHw7.out _).trans k0
                      replace k1 := (at_heap HHw7.out _).trans k1
                      replace k2 := (at_heap HHw7.out _).trans k2
                      replace o0 := (at_heap HHw7.out _).trans o0
                      go_wp2
                      have HB57 := HBw7
                      have HBW7 := Lib.hid (HB5.out.trans (HBw7.out.mono HB5.out.size))
                      clear j1 j2 k0 k1 k2 o0
                      go_loopw [154] (fun v154 wr => ∃ k : Nat, k ≤ n ∧ v154 = .int .i64 (k : Int) ∧ Below w7.heap.size w7 wr) (fun v154 _ => n - (intOf v154).toNat)
                      case atStart => exact ⟨0, by omega, rfl, Below.refl _ _⟩
                      case round =>
                        obtain ⟨k, hk, rfl, hb⟩ := hrel
                        have HBK := Lib.hid hb
                        have l0 := (hb.cell (cell_lt j0)).trans j0
                        by_cases hlt2 : k < n
                        · obtain ⟨y, hy⟩ : ∃ y, xs[k]? = some y := ⟨_, List.getElem?_eq_getElem (by rw [HL.out]; exact hlt2)⟩
                          have hbw := HBW7.out.trans (hb.mono HBW7.out.size)
                          obtain ⟨ad, rfl, hab, y0, y1, y2, y3⟩ := nodes_cells (HNS.out.below hbw).1 k y hy
                          have hyin := HNS.out.2 y (List.mem_of_getElem? hy)
                          have HYL : Hid (y.d.deps.length = y.n) := hyin.len
                          have hyd := nds_at hy
                          have HYX : Hid (y.d.name = nm → y.d.deps = xd.deps) := fun e => by
                            have h1 := nodup_at HND.out hyd HXJ.out (by rw [e]; exact HXN.out)
                            rw [h1, HXJ.out] at hyd
                            rw [Option.some.inj hyd]
                          have HYR := Lib.hid ((show Reads w w.heap.size 1 y.A y.n (y.d.deps.map tsv) from hyin).below hbw)
                          have hyn : y.n ≤ 1000 := (HF.out y (List.mem_of_getElem? hy)).2
                          have HDLS : Hid (∀ d ∈ y.d.deps, d.length ≤ maxLen) := (HF.out y (List.mem_of_getElem? hy)).1.2
                          have hk0 : (0 : Int) ≤ (k : Int) := by omega
                          have hk1 : (k : Int) < (n : Int) := by omega
                          obtain ⟨⟨ynm, ysc, yru, yds⟩, yA, yn, yc⟩ := y
                          simp only at y0 y1 y2 y3 HYL HYX HYR hyn HDLS
                          have hnew := one_new wr (.cells #[.string (tx ynm), .bool ysc, .int .u64 yru, .slice yA yn yc] 37)
                          have hal : Below wr.heap.size wr (wr.alloc (.cells #[.string (tx ynm), .bool ysc, .int .u64 yru, .slice yA yn yc] 37)) := (Below.refl _ _).alloc (Nat.le_refl _) _
                          have HBA := Lib.hid (hb.trans (hal.mono hb.size))
                          have b0 := at_cell (i := 0) hnew rfl
                          have b1 := at_cell (i := 1) hnew rfl
                          have b2 := at_cell (i := 2) hnew rfl
                          have b3 := at_cell (i := 3) hnew rfl
                          have l0' := (hal.cell (cell_lt l0)).trans l0
                          have HTMA := Lib.hid ((HTw7.out.below (hb.trans (hal.mono hb.size)) : TMap (wr.alloc (.cells #[.string (tx ynm), .bool ysc, .int .u64 yru, .slice yA yn yc] 37)) w5.heap.size i _))
                          have HK1 : Hid (k < n) := hlt2
                          by_cases hn2 : ynm = nm
                          · have he : ((tx ynm).toList == (tx nm).toList) = true := by rw [hn2]; exact beq_self_eq_true _
                            by_cases h1 : yn = 1
                            · obtain ⟨d, hd⟩ : ∃ d, yds = [d] := List.length_eq_one_iff.1 (by rw [HYL.out]; exact h1)
                              have hxd : xd.deps = [d] := by rw [← HYX.out hn2]; exact hd
                              obtain ⟨p, hp, hpd, hiff⟩ := HONE.out d hxd
                              obtain ⟨ax, sv, rfl, hxb, hsv, hsc⟩ := HYR.out.at_ (k := 0) (by omega)
                              obtain rfl : sv = tsv d := by rw [hd] at hsv; simpa using hsv.symm
                              unfold tsv at hsc
                              have hdl : d.length ≤ maxLen := HDLS.out d (by rw [hd]; simp)
                              rw [show ax.add 0 = ax from by unfold Addr.add; simp] at hsc
                              have hsc2 := (hal.cell (cell_lt hsc)).trans hsc
                              have hdec : (decide (conA La p = conA Lb p)) = false := decide_eq_false (fun h => HEQ.out (hiff.2 h))
                              have hlook : ∀ dq : Nat, (Instr.lookup 46 (.map (some w5.heap.size)) (.string (tx d)) false).run Try.prog ((wr.alloc (.cells #[.string (tx ynm), .bool ysc, .int .u64 yru, .slice (some ax) yn yc] 37)).drewN dq) = .ok (.bool (!false)) ((wr.alloc (.cells #[.string (tx ynm), .bool ysc, .int .u64 yru, .slice (some ax) yn yc] 37)).drewN dq) := fun dq => by
                                have h := TMap.look (w := (wr.alloc (.cells #[.string (tx ynm), .bool ysc, .int .u64 yru, .slice (some ax) yn yc] 37)).drewN dq) HTMA.out hdl Try.underlying46 (zeroB _)
                                rw [atG_get HPND.out hp hpd, hdec] at h
                                exact h
                              subst h1
                              subst hn2
                              clear hy hbw hyin hyd hd hxd hp hpd hiff hsv hdec hdl hsc hb hlt2
                              go_wp2
                              go_quiet (fail)
                              go_wp2
                              exact ⟨⟨k + 1, HK1.out, by go_num, ⟨HBA.out.os, HBA.out.tape, HBA.out.output, HBA.out.size, HBA.out.block⟩⟩, by have := HK1.out; simp [intOf]; omega⟩
                            · have he1 : ((yn : Int) == 1) = false := by rw [beq_eq_false_iff_ne]; omega
                              have he2 : ¬ (yn : Int) = 1 := by omega
                              have he3 : ¬ yn = 1 := h1
                              subst hn2
                              clear hy hbw hyin hyd hb hlt2
                              go_wp2
                              go_quiet (fail)
                              go_wp2
                              exact ⟨⟨k + 1, HK1.out, by go_num, ⟨HBA.out.os, HBA.out.tape, HBA.out.output, HBA.out.size, HBA.out.block⟩⟩, by have := HK1.out; simp [intOf]; omega⟩
                          · have he : ((tx ynm).toList == (tx nm).toList) = false := by
                              rw [beq_eq_false_iff_ne]
                              intro e2
                              exact hn2 (by simpa [tx] using e2)
                            clear hy hbw hyin hyd hb hlt2
                            go_wp2
                            go_quiet (fail)
                            go_wp2
                            exact ⟨⟨k + 1, HK1.out, by go_num, ⟨HBA.out.os, HBA.out.tape, HBA.out.output, HBA.out.size, HBA.out.block⟩⟩, by have := HK1.out; simp [intOf]; omega⟩
                        · obtain rfl : k = n := by omega
                          have HTMB := Lib.hid (HTw7.out.below hb)
                          clear hlt2 hb
                          go_wp2_with (at_mapUpdate; refine wpList_tput _ rfl _ _ _ 46 rfl 4 Try.underlying46 w5.heap.size i _ rfl HTMB.out (by unfold maxLen; omega) nm (.bool (!false)) rfl rfl HNML.out ?_; intro w8 ht8 hg8; have HT8 := Lib.hid ht8; have HB8 := Lib.hid ((HB57.out.trans (HBK.out.mono HB57.out.size)).grown hg8 (Nat.le_trans HB57.out.size HBK.out.size) (fun j hj => by cases hj; exact Nat.le_refl _)); clear ht8 hg8)
                          exact ⟨⟨i + 1, by have := HI1.out; omega, by go_num, HSTEP.out _ HT8.out, HB8.out⟩, by have := HI1.out; simp [intOf]; omega⟩
                    · have heo : ((tx nm).toList == (tx onm).toList) = false := by
                        rw [beq_eq_false_iff_ne]
                        intro e2
                        exact hno (by simpa [tx] using e2)
                      have hin : nm ∈ o5 := (HI5.out.2 nm).2 (hled.resolve_left hno)
                      have HTP : Hid (tplace o5 nm = ((o5.idxOf nm : Nat) : Int)) := if_pos hin
                      obtain ⟨pp, hpp⟩ : ∃ pp, pp = o5.idxOf nm := ⟨_, rfl⟩
                      rw [← hpp] at HTP
                      clear hled hno hin hpp
                      go_wp2
                      go_quiet (fail)
                      generalize hwwE : World.drewN _ _ = wE
                      have HHwE : Hid (wE.heap = wr.heap) := by show _ = _; rw [← hwwE]; rfl
                      have HBwE : Hid (Below w5.heap.size w5 wE) := by show Below _ _ _; rw [← hwwE]; exact ⟨HBwr.out.os, HBwr.out.tape, HBwr.out.output, HBwr.out.size, HBwr.out.block⟩
                      have HTwE : Hid (TMap wE w5.heap.size i (atG (fun p => .bool (!(decide (conA La p = conA Lb p)))) (nmO (nds xs)) i)) := HTwr.out.at_heap (by rw [HHwE.out])
                      clear hwwE
                      replace j0 := (at_heap HHwE.out _).trans j0
                      replace j1 := (at_heap HHwE.out _).trans j1
                      replace j2 := (at_heap HHwE.out _).trans j2
                      replace k0 := (at_heap HHwE.out _).trans k0
                      replace k1 := (at_heap HHwE.out _).trans k1
                      replace k2 := (at_heap HHwE.out _).trans k2
                      replace o0 := (at_heap HHwE.out _).trans o0
                      go_wp2
                      go_quiet (fail)
                      generalize hwwG : World.drewN _ _ = wG
                      have HHwG : Hid (wG.heap = wE.heap) := by show _ = _; rw [← hwwG]; rfl
                      have HBwG : Hid (Below w5.heap.size w5 wG) := by show Below _ _ _; rw [← hwwG]; exact ⟨HBwE.out.os, HBwE.out.tape, HBwE.out.output, HBwE.out.size, HBwE.out.block⟩
                      have HTwG : Hid (TMap wG w5.heap.size i (atG (fun p => .bool (!(decide (conA La p = conA Lb p)))) (nmO (nds xs)) i)) := HTwE.out.at_heap (by rw [HHwG.out])
                      clear hwwG
                      replace j0 := (at_heap HHwG.out _).trans j0
                      replace j1 := (at_heap HHwG.out _).trans j1
                      replace j2 := (at_heap HHwG.out _).trans j2
                      replace k0 := (at_heap HHwG.out _).trans k0
                      replace k1 := (at_heap HHwG.out _).trans k1
                      replace k2 := (at_heap HHwG.out _).trans k2
                      replace o0 := (at_heap HHwG.out _).trans o0
                      have HPL : Hid (∀ q : Nat, Calls Try.prog 17 #[.slice A5 m5 c5, .string (tx nm)] (wG.drewN q) fun e w' => e = .returned (.int .i64 (pp : Int)) ∧ w' = wG.drewN q) := fun q => Calls.mono (place_any A5 m5 c5 o5 nm (by omega) (wG.drewN q) ((HR5.out.below HBwG.out).more HBwG.out.size)) (fun e w' h => ⟨by rw [h.1, HTP.out], h.2.symm⟩)
                      go_wp2
                      go_quiet ((go_at_call 17; exact Calls.quiet_of_same (HPL.out _)))
                      generalize hww7 : World.drewN _ _ = w7
                      have HHw7 : Hid (w7.heap = wG.heap) := by show _ = _; rw [← hww7]; rfl
                      have HBw7 : Hid (Below w5.heap.size w5 w7) := by show Below _ _ _; rw [← hww7]; exact ⟨HBwG.out.os, HBwG.out.tape, HBwG.out.output, HBwG.out.size, HBwG.out.block⟩
                      have HTw7 : Hid (TMap w7 w5.heap.size i (atG (fun p => .bool (!(decide (conA La p = conA Lb p)))) (nmO (nds xs)) i)) := HTwG.out.at_heap (by rw [HHw7.out])
                      clear hww7
                      replace j0 := (at_heap HHw7.out _).trans j0
                      replace j1 := (at_heap HHw7.out _).trans j1
                      replace j2 := (at_heap HHw7.out _).trans j2
                      replace k0 := (at_heap HHw7.out _).trans k0
                      replace k1 := (at_heap HHw7.out _).trans k1
                      replace k2 := (at_heap HHw7.out _).trans k2
                      replace o0 := (at_heap HHw7.out _).trans o0
                      go_wp2
                      have HB57 := HBw7
                      have HBW7 := Lib.hid (HB5.out.trans (HBw7.out.mono HB5.out.size))
                      clear j1 j2 k0 k1 k2 o0
                      go_loopw [154] (fun v154 wr => ∃ k : Nat, k ≤ n ∧ v154 = .int .i64 (k : Int) ∧ Below w7.heap.size w7 wr) (fun v154 _ => n - (intOf v154).toNat)
                      case atStart => exact ⟨0, by omega, rfl, Below.refl _ _⟩
                      case round =>
                        obtain ⟨k, hk, rfl, hb⟩ := hrel
                        have HBK := Lib.hid hb
                        have l0 := (hb.cell (cell_lt j0)).trans j0
                        by_cases hlt2 : k < n
                        · obtain ⟨y, hy⟩ : ∃ y, xs[k]? = some y := ⟨_, List.getElem?_eq_getElem (by rw [HL.out]; exact hlt2)⟩
                          have hbw := HBW7.out.trans (hb.mono HBW7.out.size)
                          obtain ⟨ad, rfl, hab, y0, y1, y2, y3⟩ := nodes_cells (HNS.out.below hbw).1 k y hy
                          have hyin := HNS.out.2 y (List.mem_of_getElem? hy)
                          have HYL : Hid (y.d.deps.length = y.n) := hyin.len
                          have hyd := nds_at hy
                          have HYX : Hid (y.d.name = nm → y.d.deps = xd.deps) := fun e => by
                            have h1 := nodup_at HND.out hyd HXJ.out (by rw [e]; exact HXN.out)
                            rw [h1, HXJ.out] at hyd
                            rw [Option.some.inj hyd]
                          have HYR := Lib.hid ((show Reads w w.heap.size 1 y.A y.n (y.d.deps.map tsv) from hyin).below hbw)
                          have hyn : y.n ≤ 1000 := (HF.out y (List.mem_of_getElem? hy)).2
                          have HDLS : Hid (∀ d ∈ y.d.deps, d.length ≤ maxLen) := (HF.out y (List.mem_of_getElem? hy)).1.2
                          have hk0 : (0 : Int) ≤ (k : Int) := by omega
                          have hk1 : (k : Int) < (n : Int) := by omega
                          obtain ⟨⟨ynm, ysc, yru, yds⟩, yA, yn, yc⟩ := y
                          simp only at y0 y1 y2 y3 HYL HYX HYR hyn HDLS
                          have hnew := one_new wr (.cells #[.string (tx ynm), .bool ysc, .int .u64 yru, .slice yA yn yc] 37)
                          have hal : Below wr.heap.size wr (wr.alloc (.cells #[.string (tx ynm), .bool ysc, .int .u64 yru, .slice yA yn yc] 37)) := (Below.refl _ _).alloc (Nat.le_refl _) _
                          have HBA := Lib.hid (hb.trans (hal.mono hb.size))
                          have b0 := at_cell (i := 0) hnew rfl
                          have b1 := at_cell (i := 1) hnew rfl
                          have b2 := at_cell (i := 2) hnew rfl
                          have b3 := at_cell (i := 3) hnew rfl
                          have l0' := (hal.cell (cell_lt l0)).trans l0
                          have HTMA := Lib.hid ((HTw7.out.below (hb.trans (hal.mono hb.size)) : TMap (wr.alloc (.cells #[.string (tx ynm), .bool ysc, .int .u64 yru, .slice yA yn yc] 37)) w5.heap.size i _))
                          have HK1 : Hid (k < n) := hlt2
                          by_cases hn2 : ynm = nm
                          · have he : ((tx ynm).toList == (tx nm).toList) = true := by rw [hn2]; exact beq_self_eq_true _
                            by_cases h1 : yn = 1
                            · obtain ⟨d, hd⟩ : ∃ d, yds = [d] := List.length_eq_one_iff.1 (by rw [HYL.out]; exact h1)
                              have hxd : xd.deps = [d] := by rw [← HYX.out hn2]; exact hd
                              obtain ⟨p, hp, hpd, hiff⟩ := HONE.out d hxd
                              obtain ⟨ax, sv, rfl, hxb, hsv, hsc⟩ := HYR.out.at_ (k := 0) (by omega)
                              obtain rfl : sv = tsv d := by rw [hd] at hsv; simpa using hsv.symm
                              unfold tsv at hsc
                              have hdl : d.length ≤ maxLen := HDLS.out d (by rw [hd]; simp)
                              rw [show ax.add 0 = ax from by unfold Addr.add; simp] at hsc
                              have hsc2 := (hal.cell (cell_lt hsc)).trans hsc
                              have hdec : (decide (conA La p = conA Lb p)) = false := decide_eq_false (fun h => HEQ.out (hiff.2 h))
                              have hlook : ∀ dq : Nat, (Instr.lookup 46 (.map (some w5.heap.size)) (.string (tx d)) false).run Try.prog ((wr.alloc (.cells #[.string (tx ynm), .bool ysc, .int .u64 yru, .slice (some ax) yn yc] 37)).drewN dq) = .ok (.bool (!false)) ((wr.alloc (.cells #[.string (tx ynm), .bool ysc, .int .u64 yru, .slice (some ax) yn yc] 37)).drewN dq) := fun dq => by
                                have h := TMap.look (w := (wr.alloc (.cells #[.string (tx ynm), .bool ysc, .int .u64 yru, .slice (some ax) yn yc] 37)).drewN dq) HTMA.out hdl Try.underlying46 (zeroB _)
                                rw [atG_get HPND.out hp hpd, hdec] at h
                                exact h
                              subst h1
                              subst hn2
                              clear hy hbw hyin hyd hd hxd hp hpd hiff hsv hdec hdl hsc hb hlt2
                              go_wp2
                              go_quiet (fail)
                              go_wp2
                              exact ⟨⟨k + 1, HK1.out, by go_num, ⟨HBA.out.os, HBA.out.tape, HBA.out.output, HBA.out.size, HBA.out.block⟩⟩, by have := HK1.out; simp [intOf]; omega⟩
                            · have he1 : ((yn : Int) == 1) = false := by rw [beq_eq_false_iff_ne]; omega
                              have he2 : ¬ (yn : Int) = 1 := by omega
                              have he3 : ¬ yn = 1 := h1
                              subst hn2
                              clear hy hbw hyin hyd hb hlt2
                              go_wp2
                              go_quiet (fail)
                              go_wp2
                              exact ⟨⟨k + 1, HK1.out, by go_num, ⟨HBA.out.os, HBA.out.tape, HBA.out.output, HBA.out.size, HBA.out.block⟩⟩, by have := HK1.out; simp [intOf]; omega⟩
                          · have he : ((tx ynm).toList == (tx nm).toList) = false := by
                              rw [beq_eq_false_iff_ne]
                              intro e2
                              exact hn2 (by simpa [tx] using e2)
                            clear hy hbw hyin hyd hb hlt2
                            go_wp2
                            go_quiet (fail)
                            go_wp2
                            exact ⟨⟨k + 1, HK1.out, by go_num, ⟨HBA.out.os, HBA.out.tape, HBA.out.output, HBA.out.size, HBA.out.block⟩⟩, by have := HK1.out; simp [intOf]; omega⟩
                        · obtain rfl : k = n := by omega
                          have HTMB := Lib.hid (HTw7.out.below hb)
                          clear hlt2 hb
                          go_wp2_with (at_mapUpdate; refine wpList_tput _ rfl _ _ _ 46 rfl 4 Try.underlying46 w5.heap.size i _ rfl HTMB.out (by unfold maxLen; omega) nm (.bool (!false)) rfl rfl HNML.out ?_; intro w8 ht8 hg8; have HT8 := Lib.hid ht8; have HB8 := Lib.hid ((HB57.out.trans (HBK.out.mono HB57.out.size)).grown hg8 (Nat.le_trans HB57.out.size HBK.out.size) (fun j hj => by cases hj; exact Nat.le_refl _)); clear ht8 hg8)
                          exact ⟨⟨i + 1, by have := HI1.out; omega, by go_num, HSTEP.out _ HT8.out, HB8.out⟩, by have := HI1.out; simp [intOf]; omega⟩
                · obtain rfl : i = n := by omega
                  have HB8 := Lib.hid (HB5.out.trans (hb.mono HB5.out.size))
                  clear hb htm hlt
                  go_wp2_with (go_at_call 8; refine (qfixed_any _).mono ?_; rintro e w9 ⟨rfl, hb9⟩; have HB9 := Lib.hid (HB8.out.trans (hb9.mono HB8.out.size)); clear hb9)
                  go_ret
                  exact ⟨rfl, HB9.out⟩
            · have hS0 : Below w4.heap.size w4 w4.drew := (Below.refl _ w4).drew
              have HSD := Lib.hid hS0
              refine wp_region_held (S := fun v => Below w4.heap.size w4 v) (by kernel_rfl) (show wpAnyH _ _ _ _ _ _ _ _ (w4.drew) from ?_)
              generalize w4.drew = wd at HSD hS0 ⊢
              clear hS0
              refine h_take 0 (.slice A n c) rfl (by kernel_rfl) (by kernel_rfl) (by kernel_rfl) (fun _ _ _ h => h) (by kernel_rfl) HSD.out (fun _ _ => by kernel_rfl) ?_
              refine h_take 2 (.slice G gn gc) rfl (by kernel_rfl) (by kernel_rfl) (by kernel_rfl) (fun _ _ _ h => h) (by kernel_rfl) HSD.out (fun _ _ => by kernel_rfl) ?_
              refine h_take 4 (.agg #[.string (tx onm), .bool ora, .int .u64 oc]) rfl (by kernel_rfl) (by kernel_rfl) (by kernel_rfl) (fun _ _ _ h => h) (by kernel_rfl) HSD.out (by intro v hv; have hbx := (hv.block w.heap.size HS4.out).trans HN4.out; have b0 := at_cell (i := 0) hbx rfl; have b1 := at_cell (i := 1) hbx rfl; have b2 := at_cell (i := 2) hbx rfl; go_simp) ?_
              refine h_either 1 5 rfl rfl (by kernel_rfl) (by kernel_rfl) (by kernel_rfl) (fun K hK => ?_) (fun K hK => ?_)
              · go_simp
                have hbn := HSD.out.alloc HSD.out.size (.cells #[] 44)
                have hen := own_less (own_emptyS wd 44 3) HSD.out.size
                have hsz : (wd.alloc (.cells #[] 44)).heap.size = wd.heap.size + 1 := by simp
                generalize wd.alloc (.cells #[] 44) = wa at *
                have HBa := Lib.hid hbn
                have HEa := Lib.hid hen
                clear hbn hen hsz
                refine hK _ _ HBa.out ?_
                clear hK K
                refine h_either 3 5 rfl rfl (by kernel_rfl) (by kernel_rfl) (by kernel_rfl) (fun K hK => ?_) (fun K hK => ?_)
                · refine wp_append_many (.tmp 44) (.tmp 45) 23 rfl w4.heap.size 44 ii _ 3 32 Try.underlying23 hi0 hz0 hz1 hz2 rfl (by decide) (.slice (some ⟨wd.heap.size, 0, none⟩) 0 0) 0 [] rfl HEa.out G gn gc wa.heap.size (sts gs) rfl HGA.out (HGS.out _ (HB4.out.trans (HBa.out.mono HB4.out.size))) (sts_one _) (by have := HGN.out; unfold maxLen; omega) (by have := HGN.out; omega) HBa.out.size ?_
                  intro v46 wb ho hg _
                  rw [Nat.zero_add, List.nil_append] at ho
                  have HBb := Lib.hid (HBa.out.grown hg HBa.out.size (fun j hj => own_block HEa.out j hj))
                  have HVb := Lib.hid ho
                  clear ho hg
                  refine hK _ _ HBb.out ?_
                  clear hK K
                  refine h_one 5 rfl (by kernel_rfl) (by kernel_rfl) (fun K hK => ?_)
                  go_simp
                  have hnew := one_new wb (.cells #[.string (tx onm), .bool ora, .int .u64 oc] 44)
                  have hbn := HBb.out.alloc HBb.out.size (.cells #[.string (tx onm), .bool ora, .int .u64 oc] 44)
                  have hsz : (wb.alloc (.cells #[.string (tx onm), .bool ora, .int .u64 oc] 44)).heap.size = wb.heap.size + 1 := by simp
                  have hen := World.ownsRow.alloc HVb.out (.cells #[.string (tx onm), .bool ora, .int .u64 oc] 44)
                  generalize wb.alloc (.cells #[.string (tx onm), .bool ora, .int .u64 oc] 44) = wc at *
                  have HBc := Lib.hid hbn
                  have HRc := Lib.hid hnew
                  have HVc := Lib.hid hen
                  clear hbn hnew hsz hen
                  refine hK _ _ HBc.out ?_
                  clear hK K
                  refine h_one 6 rfl (by kernel_rfl) (by kernel_rfl) (fun K hK => ?_)
                  have hrd := reads_at HRc.out
                  refine wp_append_many (.tmp 46) (.tmp 48) 23 rfl w4.heap.size 44 ii _ 3 32 Try.underlying23 hi0 hz0 hz1 hz2 rfl (by decide) v46 gn _ rfl HVc.out (some ⟨wb.heap.size, 0, none⟩) 1 1 wc.heap.size (Stp.cells (⟨onm, ora, oq⟩ : Stp)) rfl (by intro h; cases h) (by unfold Stp.cells; simp only [HOC.out]; exact hrd) (by intro u hu; exact sts_one [(⟨onm, ora, oq⟩ : Stp)] u (by simpa [sts] using hu)) (by have := HGN.out; unfold maxLen; omega) (by have := HGN.out; omega) HBc.out.size ?_
                  intro v49 wv ho hg _
                  have HBV9 := Lib.hid (HBc.out.grown hg HBc.out.size (fun j hj => own_block HVc.out j hj))
                  rw [← sts_snoc] at ho
                  obtain ⟨A49, c49, rfl, _⟩ := own_slice ho
                  have HST := Lib.hid (Reads.of_own ho)
                  clear ho hg hrd
                  refine hK _ _ HBV9.out ?_
                  clear hK K
                  refine h_one 7 rfl (by kernel_rfl) (by kernel_rfl) (fun K hK => ?_)
                  go_simp
                  refine (HC2.out _ (HB4.out.trans (HBV9.out.mono HB4.out.size)) A49 c49 HST.out).mono ?_
                  rintro e wu ⟨⟨A9, c9, rfl, ho9⟩, hb9⟩
                  have HR9 : Hid (Steps wu wu.heap.size A9 n Lb) := Reads.of_own ho9
                  have HBU := Lib.hid (HBV9.out.trans (hb9.mono HBV9.out.size))
                  clear ho9 hb9
                  refine hK _ _ HBU.out ?_
                  clear hK K
                  refine h_take 8 (.tuple #[.slice A9 n c9, .int .i64 0]) rfl (by kernel_rfl) (by kernel_rfl) (by kernel_rfl) (fun _ _ _ h => h) (by kernel_rfl) HBU.out (fun _ _ => by kernel_rfl) ?_
                  refine h_take 9 (.slice A9 n c9) rfl (by kernel_rfl) (by kernel_rfl) (by kernel_rfl) (fun _ _ _ h => h) (by kernel_rfl) HBU.out (by intro v hv; go_simp) ?_
                  refine h_take 10 (.int .i64 0) rfl (by kernel_rfl) (by kernel_rfl) (by kernel_rfl) (fun _ _ _ h => h) (by kernel_rfl) HBU.out (by intro v hv; go_simp) ?_
                  refine h_take 11 (.slice A9 n c9) rfl (by kernel_rfl) (by kernel_rfl) (by kernel_rfl) (fun _ _ _ h => h) (by kernel_rfl) HBU.out (fun _ _ => by kernel_rfl) ?_
                  refine h_take 12 (.int .i64 0) rfl (by kernel_rfl) (by kernel_rfl) (by kernel_rfl) (fun _ _ _ h => h) (by kernel_rfl) HBU.out (fun _ _ => by kernel_rfl) ?_
                  refine wpAnyH_done (by kernel_rfl) ?_ _
                  go_simp
                  rw [HM.out]
                  exact ⟨_, _, _, _, _, _, _, _, _, _, _, _, _, _, _, _, _, _, _, _, _, _, _, _, _, _, _, _, _, _, _, _, _, _, _, _, _, _, _, _, _, _, _, _, A9, c9, rfl, HBU.out, HR9.out⟩
                · have HNE : Hid (wa.heap.size ≠ wd.heap.size) := Nat.ne_of_gt (own_lt HEa.out _ rfl)
                  go_simp
                  have hnew := one_new wa (.cells #[.string (tx onm), .bool ora, .int .u64 oc] 44)
                  have hbn := HBa.out.alloc HBa.out.size (.cells #[.string (tx onm), .bool ora, .int .u64 oc] 44)
                  have hsz : (wa.alloc (.cells #[.string (tx onm), .bool ora, .int .u64 oc] 44)).heap.size = wa.heap.size + 1 := by simp
                  have hen := World.ownsRow.alloc HEa.out (.cells #[.string (tx onm), .bool ora, .int .u64 oc] 44)
                  generalize wa.alloc (.cells #[.string (tx onm), .bool ora, .int .u64 oc] 44) = wb at *
                  have HBb := Lib.hid hbn
                  have HRb := Lib.hid hnew
                  have HEb := Lib.hid hen
                  clear hbn hnew hsz hen
                  refine hK _ _ HBb.out ?_
                  clear hK K
                  refine h_one 3 rfl (by kernel_rfl) (by kernel_rfl) (fun K hK => ?_)
                  refine wp_append_many (.tmp 44) (.tmp 45) 23 rfl w4.heap.size 44 ii _ 3 32 Try.underlying23 hi0 hz0 hz1 hz2 rfl (by decide) (.slice (some ⟨wd.heap.size, 0, none⟩) 0 0) 0 [] rfl HEb.out G gn gc wb.heap.size (sts gs) rfl HGA.out (HGS.out _ (HB4.out.trans (HBb.out.mono HB4.out.size))) (sts_one _) (by have := HGN.out; unfold maxLen; omega) (by have := HGN.out; omega) HBb.out.size ?_
                  intro v46 wc ho hg _
                  rw [Nat.zero_add, List.nil_append] at ho
                  have HBc := Lib.hid (HBb.out.grown hg HBb.out.size (fun j hj => own_block HEb.out j hj))
                  have HVc := Lib.hid ho
                  have hg2 : wb.grownBy wc (some (wd.heap.size)) := hg
                  have HRc := Lib.hid ((hg2.block (wa.heap.size) (Array.getElem?_eq_some_iff.1 HRb.out).1 (fun e => HNE.out (Option.some.inj e))).trans HRb.out)
                  clear hg2
                  clear ho hg
                  refine hK _ _ HBc.out ?_
                  clear hK K
                  refine h_one 6 rfl (by kernel_rfl) (by kernel_rfl) (fun K hK => ?_)
                  have hrd := reads_at HRc.out
                  refine wp_append_many (.tmp 46) (.tmp 48) 23 rfl w4.heap.size 44 ii _ 3 32 Try.underlying23 hi0 hz0 hz1 hz2 rfl (by decide) v46 gn _ rfl HVc.out (some ⟨wa.heap.size, 0, none⟩) 1 1 wc.heap.size (Stp.cells (⟨onm, ora, oq⟩ : Stp)) rfl (by intro h; cases h) (by unfold Stp.cells; simp only [HOC.out]; exact hrd) (by intro u hu; exact sts_one [(⟨onm, ora, oq⟩ : Stp)] u (by simpa [sts] using hu)) (by have := HGN.out; unfold maxLen; omega) (by have := HGN.out; omega) HBc.out.size ?_
                  intro v49 wv ho hg _
                  have HBV9 := Lib.hid (HBc.out.grown hg HBc.out.size (fun j hj => own_block HVc.out j hj))
                  rw [← sts_snoc] at ho
                  obtain ⟨A49, c49, rfl, _⟩ := own_slice ho
                  have HST := Lib.hid (Reads.of_own ho)
                  clear ho hg hrd
                  refine hK _ _ HBV9.out ?_
                  clear hK K
                  refine h_one 7 rfl (by kernel_rfl) (by kernel_rfl) (fun K hK => ?_)
                  go_simp
                  refine (HC2.out _ (HB4.out.trans (HBV9.out.mono HB4.out.size)) A49 c49 HST.out).mono ?_
                  rintro e wu ⟨⟨A9, c9, rfl, ho9⟩, hb9⟩
                  have HR9 : Hid (Steps wu wu.heap.size A9 n Lb) := Reads.of_own ho9
                  have HBU := Lib.hid (HBV9.out.trans (hb9.mono HBV9.out.size))
                  clear ho9 hb9
                  refine hK _ _ HBU.out ?_
                  clear hK K
                  refine h_take 8 (.tuple #[.slice A9 n c9, .int .i64 0]) rfl (by kernel_rfl) (by kernel_rfl) (by kernel_rfl) (fun _ _ _ h => h) (by kernel_rfl) HBU.out (fun _ _ => by kernel_rfl) ?_
                  refine h_take 9 (.slice A9 n c9) rfl (by kernel_rfl) (by kernel_rfl) (by kernel_rfl) (fun _ _ _ h => h) (by kernel_rfl) HBU.out (by intro v hv; go_simp) ?_
                  refine h_take 10 (.int .i64 0) rfl (by kernel_rfl) (by kernel_rfl) (by kernel_rfl) (fun _ _ _ h => h) (by kernel_rfl) HBU.out (by intro v hv; go_simp) ?_
                  refine h_take 11 (.slice A9 n c9) rfl (by kernel_rfl) (by kernel_rfl) (by kernel_rfl) (fun _ _ _ h => h) (by kernel_rfl) HBU.out (fun _ _ => by kernel_rfl) ?_
                  refine h_take 12 (.int .i64 0) rfl (by kernel_rfl) (by kernel_rfl) (by kernel_rfl) (fun _ _ _ h => h) (by kernel_rfl) HBU.out (fun _ _ => by kernel_rfl) ?_
                  refine wpAnyH_done (by kernel_rfl) ?_ _
                  go_simp
                  rw [HM.out]
                  exact ⟨_, _, _, _, _, _, _, _, _, _, _, _, _, _, _, _, _, _, _, _, _, _, _, _, _, _, _, _, _, _, _, _, _, _, _, _, _, _, _, _, _, _, _, _, A9, c9, rfl, HBU.out, HR9.out⟩
              · go_simp
                have hnew := one_new wd (.cells #[.string (tx onm), .bool ora, .int .u64 oc] 44)
                have hbn := HSD.out.alloc HSD.out.size (.cells #[.string (tx onm), .bool ora, .int .u64 oc] 44)
                have hsz : (wd.alloc (.cells #[.string (tx onm), .bool ora, .int .u64 oc] 44)).heap.size = wd.heap.size + 1 := by simp
                generalize wd.alloc (.cells #[.string (tx onm), .bool ora, .int .u64 oc] 44) = wa at *
                have HBa := Lib.hid hbn
                have HRa := Lib.hid hnew
                clear hbn hnew hsz
                refine hK _ _ HBa.out ?_
                clear hK K
                refine h_one 1 rfl (by kernel_rfl) (by kernel_rfl) (fun K hK => ?_)
                have HNE : Hid (wd.heap.size ≠ wa.heap.size) := by have := (Array.getElem?_eq_some_iff.1 HRa.out).1; show _ ≠ _; omega
                go_simp
                have hbn := HBa.out.alloc HBa.out.size (.cells #[] 44)
                have hen := own_less (own_emptyS wa 44 3) HBa.out.size
                have hsz : (wa.alloc (.cells #[] 44)).heap.size = wa.heap.size + 1 := by simp
                have hrn := (Below.heap_alloc wa (.cells #[] 44) _ (Array.getElem?_eq_some_iff.1 HRa.out).1).trans HRa.out
                generalize wa.alloc (.cells #[] 44) = wb at *
                have HBb := Lib.hid hbn
                have HEb := Lib.hid hen
                have HRb := Lib.hid hrn
                clear hbn hen hsz hrn
                refine hK _ _ HBb.out ?_
                clear hK K
                refine h_one 3 rfl (by kernel_rfl) (by kernel_rfl) (fun K hK => ?_)
                refine wp_append_many (.tmp 44) (.tmp 45) 23 rfl w4.heap.size 44 ii _ 3 32 Try.underlying23 hi0 hz0 hz1 hz2 rfl (by decide) (.slice (some ⟨wa.heap.size, 0, none⟩) 0 0) 0 [] rfl HEb.out G gn gc wb.heap.size (sts gs) rfl HGA.out (HGS.out _ (HB4.out.trans (HBb.out.mono HB4.out.size))) (sts_one _) (by have := HGN.out; unfold maxLen; omega) (by have := HGN.out; omega) HBb.out.size ?_
                intro v46 wc ho hg _
                rw [Nat.zero_add, List.nil_append] at ho
                have HBc := Lib.hid (HBb.out.grown hg HBb.out.size (fun j hj => own_block HEb.out j hj))
                have HVc := Lib.hid ho
                have hg2 : wb.grownBy wc (some (wa.heap.size)) := hg
                have HRc := Lib.hid ((hg2.block (wd.heap.size) (Array.getElem?_eq_some_iff.1 HRb.out).1 (fun e => HNE.out (Option.some.inj e))).trans HRb.out)
                clear hg2
                clear ho hg
                refine hK _ _ HBc.out ?_
                clear hK K
                refine h_one 6 rfl (by kernel_rfl) (by kernel_rfl) (fun K hK => ?_)
                have hrd := reads_at HRc.out
                refine wp_append_many (.tmp 46) (.tmp 48) 23 rfl w4.heap.size 44 ii _ 3 32 Try.underlying23 hi0 hz0 hz1 hz2 rfl (by decide) v46 gn _ rfl HVc.out (some ⟨wd.heap.size, 0, none⟩) 1 1 wc.heap.size (Stp.cells (⟨onm, ora, oq⟩ : Stp)) rfl (by intro h; cases h) (by unfold Stp.cells; simp only [HOC.out]; exact hrd) (by intro u hu; exact sts_one [(⟨onm, ora, oq⟩ : Stp)] u (by simpa [sts] using hu)) (by have := HGN.out; unfold maxLen; omega) (by have := HGN.out; omega) HBc.out.size ?_
                intro v49 wv ho hg _
                have HBV9 := Lib.hid (HBc.out.grown hg HBc.out.size (fun j hj => own_block HVc.out j hj))
                rw [← sts_snoc] at ho
                obtain ⟨A49, c49, rfl, _⟩ := own_slice ho
                have HST := Lib.hid (Reads.of_own ho)
                clear ho hg hrd
                refine hK _ _ HBV9.out ?_
                clear hK K
                refine h_one 7 rfl (by kernel_rfl) (by kernel_rfl) (fun K hK => ?_)
                go_simp
                refine (HC2.out _ (HB4.out.trans (HBV9.out.mono HB4.out.size)) A49 c49 HST.out).mono ?_
                rintro e wu ⟨⟨A9, c9, rfl, ho9⟩, hb9⟩
                have HR9 : Hid (Steps wu wu.heap.size A9 n Lb) := Reads.of_own ho9
                have HBU := Lib.hid (HBV9.out.trans (hb9.mono HBV9.out.size))
                clear ho9 hb9
                refine hK _ _ HBU.out ?_
                clear hK K
                refine h_take 8 (.tuple #[.slice A9 n c9, .int .i64 0]) rfl (by kernel_rfl) (by kernel_rfl) (by kernel_rfl) (fun _ _ _ h => h) (by kernel_rfl) HBU.out (fun _ _ => by kernel_rfl) ?_
                refine h_take 9 (.slice A9 n c9) rfl (by kernel_rfl) (by kernel_rfl) (by kernel_rfl) (fun _ _ _ h => h) (by kernel_rfl) HBU.out (by intro v hv; go_simp) ?_
                refine h_take 10 (.int .i64 0) rfl (by kernel_rfl) (by kernel_rfl) (by kernel_rfl) (fun _ _ _ h => h) (by kernel_rfl) HBU.out (by intro v hv; go_simp) ?_
                refine h_take 11 (.slice A9 n c9) rfl (by kernel_rfl) (by kernel_rfl) (by kernel_rfl) (fun _ _ _ h => h) (by kernel_rfl) HBU.out (fun _ _ => by kernel_rfl) ?_
                refine h_take 12 (.int .i64 0) rfl (by kernel_rfl) (by kernel_rfl) (by kernel_rfl) (fun _ _ _ h => h) (by kernel_rfl) HBU.out (fun _ _ => by kernel_rfl) ?_
                refine wpAnyH_done (by kernel_rfl) ?_ _
                go_simp
                rw [HM.out]
                exact ⟨_, _, _, _, _, _, _, _, _, _, _, _, _, _, _, _, _, _, _, _, _, _, _, _, _, _, _, _, _, _, _, _, _, _, _, _, _, _, _, _, _, _, _, _, A9, c9, rfl, HBU.out, HR9.out⟩
          · have HC := Lib.hid (fun (W : World) (hb : Below w.heap.size w W) => clean_badz A n c xs (by omega) hok hc0 (.slice G gn gc) W ((h.below hb).more hb.size))
            have HC2 := Lib.hid (fun (W : World) (hb : Below w.heap.size w W) (g : Value) => clean_badz A n c xs (by omega) hok hc0 g W ((h.below hb).more hb.size))
            obtain ⟨z, hz⟩ : ∃ z, z = chk (nds xs) := ⟨_, rfl⟩
            rw [← hz] at HC HC2 hc0
            have hy0 : (z != 0) = true := by rw [bne_iff_ne]; exact hc0
            have hy1 : (z == z) = true := beq_self_eq_true z
            clear hok hok2 hru hc0 hg h hgl hs gsm fw hd30 hz hga hq hol
            go_enter Try.func5, Try.ntmps5
            go_wp2_with (first
              | (go_at_call 9; refine (HC.out _ HB3.out).mono ?_; rintro e w4 ⟨rfl, hb4⟩; have HB4 := Lib.hid (HB3.out.trans (hb4.mono HB3.out.size)); have HN4 := Lib.hid ((hb4.block w.heap.size HS3.out).trans HN3.out); have HS4 : Hid (w.heap.size < w4.heap.size) := Nat.lt_of_lt_of_le HS3.out hb4.size; clear hb4)
              | (go_at_call 7; refine (HFW.out _ HB2.out).mono ?_; rintro e w3 ⟨he3, hb3⟩; obtain rfl := he3.yes FWH.out; have HB3 := Lib.hid (HB2.out.trans (hb3.mono HB2.out.size)); have HN3 := Lib.hid ((hb3.block w.heap.size HS2.out).trans HN2.out); have HS3 : Hid (w.heap.size < w3.heap.size) := Nat.lt_of_lt_of_le HS2.out hb3.size; have p0 := at_cell (i := 0) HN3.out rfl; have p1 := at_cell (i := 1) HN3.out rfl; have p2 := at_cell (i := 2) HN3.out rfl; clear hb3)
              | (go_at_call 6; refine (HG.out _ HB0.out).mono ?_; rintro e w2 ⟨he, hb2⟩; obtain rfl := he.no (fun h => h GS.out); have HB2 := Lib.hid (HB0.out.trans (hb2.mono HB0.out.size)); have HN2 := Lib.hid ((hb2.block w.heap.size HS0.out).trans H0.out); have HS2 : Hid (w.heap.size < w2.heap.size) := Nat.lt_of_lt_of_le HS0.out hb2.size; have p0 := at_cell (i := 0) HN2.out rfl; have p1 := at_cell (i := 1) HN2.out rfl; have p2 := at_cell (i := 2) HN2.out rfl; clear hb2))
            obtain ⟨M, hM⟩ : ∃ M : Act → World → Prop, M = (fun a v => ∃ (v3 v4 v11 v12 v13 v14 v15 v16 v17 v18 v19 v20 v21 v22 v23 v24 v25 v26 v27 v28 v29 v30 v31 v32 v33 v34 v35 v36 v37 v38 v39 v40 v41 v42 v43 v44 v45 v46 v47 v48 v49 v50 v51 v52 : Value), a = ({ tmps := #[.slice A n c, .slice G gn gc, .agg #[.string (tx onm), .bool ora, .int .u64 oc], v3, v4, .pointer (some ⟨w.heap.size, 0, none⟩), .bool false, .slice none 0 0, .int .i64 z, .slice none 0 0, .int .i64 z, v11, v12, v13, v14, v15, v16, v17, v18, v19, v20, v21, v22, v23, v24, v25, v26, v27, v28, v29, v30, v31, v32, v33, v34, v35, v36, v37, v38, v39, v40, v41, v42, v43, v44, v45, v46, v47, v48, v49, v50, v51, v52, undef, undef, undef, undef, undef, undef, undef, undef, undef, undef, undef, undef, undef, undef, undef, undef, undef, undef, undef, undef, undef, undef, undef, undef, undef, undef, undef, undef, undef, undef, undef, undef, undef, undef, undef, undef, undef, undef, undef, undef, undef, undef, undef, undef, undef, undef, undef, undef, undef, undef, undef, undef, undef, undef, undef, undef, undef, undef, undef, undef, undef, undef, undef, undef, undef, undef, undef, undef, undef, undef, undef, undef, undef, undef, undef, undef, undef, undef, undef, undef, undef, undef, undef, undef, undef, undef, undef, undef, undef, undef, undef, undef, undef, undef, undef, undef, undef, undef, undef, undef, undef, undef, undef, undef, undef, undef, undef, undef, undef, undef, undef, undef, undef, undef, undef, undef, undef, undef, undef, undef, undef, undef, undef, undef, undef, undef, undef, undef, undef, undef, undef, undef, undef, undef, undef, undef, undef, undef, undef, undef], defers := [] } : Act) ∧ Below w4.heap.size w4 v) := ⟨_, rfl⟩
            have HM := Lib.hid hM
            clear hM
            refine wp_cut22 M ?_ ?_
            · intro a v hM
              rw [HM.out] at hM
              obtain ⟨v3, v4, v11, v12, v13, v14, v15, v16, v17, v18, v19, v20, v21, v22, v23, v24, v25, v26, v27, v28, v29, v30, v31, v32, v33, v34, v35, v36, v37, v38, v39, v40, v41, v42, v43, v44, v45, v46, v47, v48, v49, v50, v51, v52, rfl, hb⟩ := hM
              have HBV := Lib.hid (HB4.out.trans (hb.mono HB4.out.size))
              clear hb HM
              go_wp2_with (go_at_call 8; refine (qfixed_any _).mono ?_; rintro e w9 ⟨rfl, hb9⟩; have HB9 := Lib.hid (HBV.out.trans (hb9.mono HBV.out.size)); clear hb9)
              go_ret
              exact ⟨rfl, HB9.out⟩
            · have hS0 : Below w4.heap.size w4 w4.drew := (Below.refl _ w4).drew
              have HSD := Lib.hid hS0
              refine wp_region_held (S := fun v => Below w4.heap.size w4 v) (by kernel_rfl) (show wpAnyH _ _ _ _ _ _ _ _ (w4.drew) from ?_)
              generalize w4.drew = wd at HSD hS0 ⊢
              clear hS0
              refine h_take 0 (.slice A n c) rfl (by kernel_rfl) (by kernel_rfl) (by kernel_rfl) (fun _ _ _ h => h) (by kernel_rfl) HSD.out (fun _ _ => by kernel_rfl) ?_
              refine h_take 2 (.slice G gn gc) rfl (by kernel_rfl) (by kernel_rfl) (by kernel_rfl) (fun _ _ _ h => h) (by kernel_rfl) HSD.out (fun _ _ => by kernel_rfl) ?_
              refine h_take 4 (.agg #[.string (tx onm), .bool ora, .int .u64 oc]) rfl (by kernel_rfl) (by kernel_rfl) (by kernel_rfl) (fun _ _ _ h => h) (by kernel_rfl) HSD.out (by intro v hv; have hbx := (hv.block w.heap.size HS4.out).trans HN4.out; have b0 := at_cell (i := 0) hbx rfl; have b1 := at_cell (i := 1) hbx rfl; have b2 := at_cell (i := 2) hbx rfl; go_simp) ?_
              refine h_either 1 5 rfl rfl (by kernel_rfl) (by kernel_rfl) (by kernel_rfl) (fun K hK => ?_) (fun K hK => ?_)
              · go_simp
                have hbn := HSD.out.alloc HSD.out.size (.cells #[] 44)
                have hen := own_less (own_emptyS wd 44 3) HSD.out.size
                have hsz : (wd.alloc (.cells #[] 44)).heap.size = wd.heap.size + 1 := by simp
                generalize wd.alloc (.cells #[] 44) = wa at *
                have HBa := Lib.hid hbn
                have HEa := Lib.hid hen
                clear hbn hen hsz
                refine hK _ _ HBa.out ?_
                clear hK K
                refine h_either 3 5 rfl rfl (by kernel_rfl) (by kernel_rfl) (by kernel_rfl) (fun K hK => ?_) (fun K hK => ?_)
                · refine wp_append_many (.tmp 44) (.tmp 45) 23 rfl w4.heap.size 44 ii _ 3 32 Try.underlying23 hi0 hz0 hz1 hz2 rfl (by decide) (.slice (some ⟨wd.heap.size, 0, none⟩) 0 0) 0 [] rfl HEa.out G gn gc wa.heap.size (sts gs) rfl HGA.out (HGS.out _ (HB4.out.trans (HBa.out.mono HB4.out.size))) (sts_one _) (by have := HGN.out; unfold maxLen; omega) (by have := HGN.out; omega) HBa.out.size ?_
                  intro v46 wb ho hg _
                  rw [Nat.zero_add, List.nil_append] at ho
                  have HBb := Lib.hid (HBa.out.grown hg HBa.out.size (fun j hj => own_block HEa.out j hj))
                  have HVb := Lib.hid ho
                  clear ho hg
                  refine hK _ _ HBb.out ?_
                  clear hK K
                  refine h_one 5 rfl (by kernel_rfl) (by kernel_rfl) (fun K hK => ?_)
                  go_simp
                  have hnew := one_new wb (.cells #[.string (tx onm), .bool ora, .int .u64 oc] 44)
                  have hbn := HBb.out.alloc HBb.out.size (.cells #[.string (tx onm), .bool ora, .int .u64 oc] 44)
                  have hsz : (wb.alloc (.cells #[.string (tx onm), .bool ora, .int .u64 oc] 44)).heap.size = wb.heap.size + 1 := by simp
                  have hen := World.ownsRow.alloc HVb.out (.cells #[.string (tx onm), .bool ora, .int .u64 oc] 44)
                  generalize wb.alloc (.cells #[.string (tx onm), .bool ora, .int .u64 oc] 44) = wc at *
                  have HBc := Lib.hid hbn
                  have HRc := Lib.hid hnew
                  have HVc := Lib.hid hen
                  clear hbn hnew hsz hen
                  refine hK _ _ HBc.out ?_
                  clear hK K
                  refine h_one 6 rfl (by kernel_rfl) (by kernel_rfl) (fun K hK => ?_)
                  have hrd := reads_at HRc.out
                  refine wp_append_many (.tmp 46) (.tmp 48) 23 rfl w4.heap.size 44 ii _ 3 32 Try.underlying23 hi0 hz0 hz1 hz2 rfl (by decide) v46 gn _ rfl HVc.out (some ⟨wb.heap.size, 0, none⟩) 1 1 wc.heap.size (Stp.cells (⟨onm, ora, oq⟩ : Stp)) rfl (by intro h; cases h) (by unfold Stp.cells; simp only [HOC.out]; exact hrd) (by intro u hu; exact sts_one [(⟨onm, ora, oq⟩ : Stp)] u (by simpa [sts] using hu)) (by have := HGN.out; unfold maxLen; omega) (by have := HGN.out; omega) HBc.out.size ?_
                  intro v49 wv ho hg _
                  have HBV9 := Lib.hid (HBc.out.grown hg HBc.out.size (fun j hj => own_block HVc.out j hj))
                  rw [← sts_snoc] at ho
                  obtain ⟨A49, c49, rfl, _⟩ := own_slice ho
                  have HST := Lib.hid (Reads.of_own ho)
                  clear ho hg hrd
                  refine hK _ _ HBV9.out ?_
                  clear hK K
                  refine h_one 7 rfl (by kernel_rfl) (by kernel_rfl) (fun K hK => ?_)
                  go_simp
                  refine (HC2.out _ (HB4.out.trans (HBV9.out.mono HB4.out.size)) (.slice A49 (gn + 1) c49)).mono ?_
                  rintro e wu ⟨rfl, hb9⟩
                  have HBU := Lib.hid (HBV9.out.trans (hb9.mono HBV9.out.size))
                  clear hb9
                  refine hK _ _ HBU.out ?_
                  clear hK K
                  refine h_take 8 (.tuple #[.slice none 0 0, .int .i64 z]) rfl (by kernel_rfl) (by kernel_rfl) (by kernel_rfl) (fun _ _ _ h => h) (by kernel_rfl) HBU.out (fun _ _ => by kernel_rfl) ?_
                  refine h_take 9 (.slice none 0 0) rfl (by kernel_rfl) (by kernel_rfl) (by kernel_rfl) (fun _ _ _ h => h) (by kernel_rfl) HBU.out (by intro v hv; go_simp) ?_
                  refine h_take 10 (.int .i64 z) rfl (by kernel_rfl) (by kernel_rfl) (by kernel_rfl) (fun _ _ _ h => h) (by kernel_rfl) HBU.out (by intro v hv; go_simp) ?_
                  refine h_take 11 (.slice none 0 0) rfl (by kernel_rfl) (by kernel_rfl) (by kernel_rfl) (fun _ _ _ h => h) (by kernel_rfl) HBU.out (fun _ _ => by kernel_rfl) ?_
                  refine h_take 12 (.int .i64 z) rfl (by kernel_rfl) (by kernel_rfl) (by kernel_rfl) (fun _ _ _ h => h) (by kernel_rfl) HBU.out (fun _ _ => by kernel_rfl) ?_
                  refine wpAnyH_done (by kernel_rfl) ?_ _
                  go_simp
                  rw [HM.out]
                  exact ⟨_, _, _, _, _, _, _, _, _, _, _, _, _, _, _, _, _, _, _, _, _, _, _, _, _, _, _, _, _, _, _, _, _, _, _, _, _, _, _, _, _, _, _, _, rfl, HBU.out⟩
                · have HNE : Hid (wa.heap.size ≠ wd.heap.size) := Nat.ne_of_gt (own_lt HEa.out _ rfl)
                  go_simp
                  have hnew := one_new wa (.cells #[.string (tx onm), .bool ora, .int .u64 oc] 44)
                  have hbn := HBa.out.alloc HBa.out.size (.cells #[.string (tx onm), .bool ora, .int .u64 oc] 44)
                  have hsz : (wa.alloc (.cells #[.string (tx onm), .bool ora, .int .u64 oc] 44)).heap.size = wa.heap.size + 1 := by simp
                  have hen := World.ownsRow.alloc HEa.out (.cells #[.string (tx onm), .bool ora, .int .u64 oc] 44)
                  generalize wa.alloc (.cells #[.string (tx onm), .bool ora, .int .u64 oc] 44) = wb at *
                  have HBb := Lib.hid hbn
                  have HRb := Lib.hid hnew
                  have HEb := Lib.hid hen
                  clear hbn hnew hsz hen
                  refine hK _ _ HBb.out ?_
                  clear hK K
                  refine h_one 3 rfl (by kernel_rfl) (by kernel_rfl) (fun K hK => ?_)
                  refine wp_append_many (.tmp 44) (.tmp 45) 23 rfl w4.heap.size 44 ii _ 3 32 Try.underlying23 hi0 hz0 hz1 hz2 rfl (by decide) (.slice (some ⟨wd.heap.size, 0, none⟩) 0 0) 0 [] rfl HEb.out G gn gc wb.heap.size (sts gs) rfl HGA.out (HGS.out _ (HB4.out.trans (HBb.out.mono HB4.out.size))) (sts_one _) (by have := HGN.out; unfold maxLen; omega) (by have := HGN.out; omega) HBb.out.size ?_
                  intro v46 wc ho hg _
                  rw [Nat.zero_add, List.nil_append] at ho
                  have HBc := Lib.hid (HBb.out.grown hg HBb.out.size (fun j hj => own_block HEb.out j hj))
                  have HVc := Lib.hid ho
                  have hg2 : wb.grownBy wc (some (wd.heap.size)) := hg
                  have HRc := Lib.hid ((hg2.block (wa.heap.size) (Array.getElem?_eq_some_iff.1 HRb.out).1 (fun e => HNE.out (Option.some.inj e))).trans HRb.out)
                  clear hg2
                  clear ho hg
                  refine hK _ _ HBc.out ?_
                  clear hK K
                  refine h_one 6 rfl (by kernel_rfl) (by kernel_rfl) (fun K hK => ?_)
                  have hrd := reads_at HRc.out
                  refine wp_append_many (.tmp 46) (.tmp 48) 23 rfl w4.heap.size 44 ii _ 3 32 Try.underlying23 hi0 hz0 hz1 hz2 rfl (by decide) v46 gn _ rfl HVc.out (some ⟨wa.heap.size, 0, none⟩) 1 1 wc.heap.size (Stp.cells (⟨onm, ora, oq⟩ : Stp)) rfl (by intro h; cases h) (by unfold Stp.cells; simp only [HOC.out]; exact hrd) (by intro u hu; exact sts_one [(⟨onm, ora, oq⟩ : Stp)] u (by simpa [sts] using hu)) (by have := HGN.out; unfold maxLen; omega) (by have := HGN.out; omega) HBc.out.size ?_
                  intro v49 wv ho hg _
                  have HBV9 := Lib.hid (HBc.out.grown hg HBc.out.size (fun j hj => own_block HVc.out j hj))
                  rw [← sts_snoc] at ho
                  obtain ⟨A49, c49, rfl, _⟩ := own_slice ho
                  have HST := Lib.hid (Reads.of_own ho)
                  clear ho hg hrd
                  refine hK _ _ HBV9.out ?_
                  clear hK K
                  refine h_one 7 rfl (by kernel_rfl) (by kernel_rfl) (fun K hK => ?_)
                  go_simp
                  refine (HC2.out _ (HB4.out.trans (HBV9.out.mono HB4.out.size)) (.slice A49 (gn + 1) c49)).mono ?_
                  rintro e wu ⟨rfl, hb9⟩
                  have HBU := Lib.hid (HBV9.out.trans (hb9.mono HBV9.out.size))
                  clear hb9
                  refine hK _ _ HBU.out ?_
                  clear hK K
                  refine h_take 8 (.tuple #[.slice none 0 0, .int .i64 z]) rfl (by kernel_rfl) (by kernel_rfl) (by kernel_rfl) (fun _ _ _ h => h) (by kernel_rfl) HBU.out (fun _ _ => by kernel_rfl) ?_
                  refine h_take 9 (.slice none 0 0) rfl (by kernel_rfl) (by kernel_rfl) (by kernel_rfl) (fun _ _ _ h => h) (by kernel_rfl) HBU.out (by intro v hv; go_simp) ?_
                  refine h_take 10 (.int .i64 z) rfl (by kernel_rfl) (by kernel_rfl) (by kernel_rfl) (fun _ _ _ h => h) (by kernel_rfl) HBU.out (by intro v hv; go_simp) ?_
                  refine h_take 11 (.slice none 0 0) rfl (by kernel_rfl) (by kernel_rfl) (by kernel_rfl) (fun _ _ _ h => h) (by kernel_rfl) HBU.out (fun _ _ => by kernel_rfl) ?_
                  refine h_take 12 (.int .i64 z) rfl (by kernel_rfl) (by kernel_rfl) (by kernel_rfl) (fun _ _ _ h => h) (by kernel_rfl) HBU.out (fun _ _ => by kernel_rfl) ?_
                  refine wpAnyH_done (by kernel_rfl) ?_ _
                  go_simp
                  rw [HM.out]
                  exact ⟨_, _, _, _, _, _, _, _, _, _, _, _, _, _, _, _, _, _, _, _, _, _, _, _, _, _, _, _, _, _, _, _, _, _, _, _, _, _, _, _, _, _, _, _, rfl, HBU.out⟩
              · go_simp
                have hnew := one_new wd (.cells #[.string (tx onm), .bool ora, .int .u64 oc] 44)
                have hbn := HSD.out.alloc HSD.out.size (.cells #[.string (tx onm), .bool ora, .int .u64 oc] 44)
                have hsz : (wd.alloc (.cells #[.string (tx onm), .bool ora, .int .u64 oc] 44)).heap.size = wd.heap.size + 1 := by simp
                generalize wd.alloc (.cells #[.string (tx onm), .bool ora, .int .u64 oc] 44) = wa at *
                have HBa := Lib.hid hbn
                have HRa := Lib.hid hnew
                clear hbn hnew hsz
                refine hK _ _ HBa.out ?_
                clear hK K
                refine h_one 1 rfl (by kernel_rfl) (by kernel_rfl) (fun K hK => ?_)
                have HNE : Hid (wd.heap.size ≠ wa.heap.size) := by have := (Array.getElem?_eq_some_iff.1 HRa.out).1; show _ ≠ _; omega
                go_simp
                have hbn := HBa.out.alloc HBa.out.size (.cells #[] 44)
                have hen := own_less (own_emptyS wa 44 3) HBa.out.size
                have hsz : (wa.alloc (.cells #[] 44)).heap.size = wa.heap.size + 1 := by simp
                have hrn := (Below.heap_alloc wa (.cells #[] 44) _ (Array.getElem?_eq_some_iff.1 HRa.out).1).trans HRa.out
                generalize wa.alloc (.cells #[] 44) = wb at *
                have HBb := Lib.hid hbn
                have HEb := Lib.hid hen
                have HRb := Lib.hid hrn
                clear hbn hen hsz hrn
                refine hK _ _ HBb.out ?_
                clear hK K
                refine h_one 3 rfl (by kernel_rfl) (by kernel_rfl) (fun K hK => ?_)
                refine wp_append_many (.tmp 44) (.tmp 45) 23 rfl w4.heap.size 44 ii _ 3 32 Try.underlying23 hi0 hz0 hz1 hz2 rfl (by decide) (.slice (some ⟨wa.heap.size, 0, none⟩) 0 0) 0 [] rfl HEb.out G gn gc wb.heap.size (sts gs) rfl HGA.out (HGS.out _ (HB4.out.trans (HBb.out.mono HB4.out.size))) (sts_one _) (by have := HGN.out; unfold maxLen; omega) (by have := HGN.out; omega) HBb.out.size ?_
                intro v46 wc ho hg _
                rw [Nat.zero_add, List.nil_append] at ho
                have HBc := Lib.hid (HBb.out.grown hg HBb.out.size (fun j hj => own_block HEb.out j hj))
                have HVc := Lib.hid ho
                have hg2 : wb.grownBy wc (some (wa.heap.size)) := hg
                have HRc := Lib.hid ((hg2.block (wd.heap.size) (Array.getElem?_eq_some_iff.1 HRb.out).1 (fun e => HNE.out (Option.some.inj e))).trans HRb.out)
                clear hg2
                clear ho hg
                refine hK _ _ HBc.out ?_
                clear hK K
                refine h_one 6 rfl (by kernel_rfl) (by kernel_rfl) (fun K hK => ?_)
                have hrd := reads_at HRc.out
                refine wp_append_many (.tmp 46) (.tmp 48) 23 rfl w4.heap.size 44 ii _ 3 32 Try.underlying23 hi0 hz0 hz1 hz2 rfl (by decide) v46 gn _ rfl HVc.out (some ⟨wd.heap.size, 0, none⟩) 1 1 wc.heap.size (Stp.cells (⟨onm, ora, oq⟩ : Stp)) rfl (by intro h; cases h) (by unfold Stp.cells; simp only [HOC.out]; exact hrd) (by intro u hu; exact sts_one [(⟨onm, ora, oq⟩ : Stp)] u (by simpa [sts] using hu)) (by have := HGN.out; unfold maxLen; omega) (by have := HGN.out; omega) HBc.out.size ?_
                intro v49 wv ho hg _
                have HBV9 := Lib.hid (HBc.out.grown hg HBc.out.size (fun j hj => own_block HVc.out j hj))
                rw [← sts_snoc] at ho
                obtain ⟨A49, c49, rfl, _⟩ := own_slice ho
                have HST := Lib.hid (Reads.of_own ho)
                clear ho hg hrd
                refine hK _ _ HBV9.out ?_
                clear hK K
                refine h_one 7 rfl (by kernel_rfl) (by kernel_rfl) (fun K hK => ?_)
                go_simp
                refine (HC2.out _ (HB4.out.trans (HBV9.out.mono HB4.out.size)) (.slice A49 (gn + 1) c49)).mono ?_
                rintro e wu ⟨rfl, hb9⟩
                have HBU := Lib.hid (HBV9.out.trans (hb9.mono HBV9.out.size))
                clear hb9
                refine hK _ _ HBU.out ?_
                clear hK K
                refine h_take 8 (.tuple #[.slice none 0 0, .int .i64 z]) rfl (by kernel_rfl) (by kernel_rfl) (by kernel_rfl) (fun _ _ _ h => h) (by kernel_rfl) HBU.out (fun _ _ => by kernel_rfl) ?_
                refine h_take 9 (.slice none 0 0) rfl (by kernel_rfl) (by kernel_rfl) (by kernel_rfl) (fun _ _ _ h => h) (by kernel_rfl) HBU.out (by intro v hv; go_simp) ?_
                refine h_take 10 (.int .i64 z) rfl (by kernel_rfl) (by kernel_rfl) (by kernel_rfl) (fun _ _ _ h => h) (by kernel_rfl) HBU.out (by intro v hv; go_simp) ?_
                refine h_take 11 (.slice none 0 0) rfl (by kernel_rfl) (by kernel_rfl) (by kernel_rfl) (fun _ _ _ h => h) (by kernel_rfl) HBU.out (fun _ _ => by kernel_rfl) ?_
                refine h_take 12 (.int .i64 z) rfl (by kernel_rfl) (by kernel_rfl) (by kernel_rfl) (fun _ _ _ h => h) (by kernel_rfl) HBU.out (fun _ _ => by kernel_rfl) ?_
                refine wpAnyH_done (by kernel_rfl) ?_ _
                go_simp
                rw [HM.out]
                exact ⟨_, _, _, _, _, _, _, _, _, _, _, _, _, _, _, _, _, _, _, _, _, _, _, _, _, _, _, _, _, _, _, _, _, _, _, _, _, _, _, _, _, _, _, _, rfl, HBU.out⟩
        · have dq : decide ((q : Int) > 100) = true := decide_eq_true (by omega)
          clear hg h hgl hs gsm fw hga hq hol
          go_enter Try.func5, Try.ntmps5
          go_wp2_with (first
            | (go_at_call 8; refine (qfixed_any _).mono ?_; rintro e w9 ⟨rfl, hb9⟩; have HB9 := Lib.hid (HB3.out.trans (hb9.mono HB3.out.size)); clear hb9)
            | (go_at_call 7; refine (HFW.out _ HB2.out).mono ?_; rintro e w3 ⟨he3, hb3⟩; obtain rfl := he3.yes FWH.out; have HB3 := Lib.hid (HB2.out.trans (hb3.mono HB2.out.size)); have HN3 := Lib.hid ((hb3.block w.heap.size HS2.out).trans HN2.out); have HS3 : Hid (w.heap.size < w3.heap.size) := Nat.lt_of_lt_of_le HS2.out hb3.size; have p0 := at_cell (i := 0) HN3.out rfl; have p1 := at_cell (i := 1) HN3.out rfl; have p2 := at_cell (i := 2) HN3.out rfl; clear hb3)
            | (go_at_call 6; refine (HG.out _ HB0.out).mono ?_; rintro e w2 ⟨he, hb2⟩; obtain rfl := he.no (fun h => h GS.out); have HB2 := Lib.hid (HB0.out.trans (hb2.mono HB0.out.size)); have HN2 := Lib.hid ((hb2.block w.heap.size HS0.out).trans H0.out); have HS2 : Hid (w.heap.size < w2.heap.size) := Nat.lt_of_lt_of_le HS0.out hb2.size; have p0 := at_cell (i := 0) HN2.out rfl; have p1 := at_cell (i := 1) HN2.out rfl; have p2 := at_cell (i := 2) HN2.out rfl; clear hb2))
          go_ret
          exact ⟨rfl, HB9.out⟩
      · have d90 : decide ((gn : Int) > 90) = true := decide_eq_true (by omega)
        clear hg h hgl hs gsm fw hga hq hol
        go_enter Try.func5, Try.ntmps5
        go_wp2_with (first
          | (go_at_call 8; refine (qfixed_any _).mono ?_; rintro e w9 ⟨rfl, hb9⟩; have HB9 := Lib.hid (HB3.out.trans (hb9.mono HB3.out.size)); clear hb9)
          | (go_at_call 7; refine (HFW.out _ HB2.out).mono ?_; rintro e w3 ⟨he3, hb3⟩; obtain rfl := he3.yes FWH.out; have HB3 := Lib.hid (HB2.out.trans (hb3.mono HB2.out.size)); have HN3 := Lib.hid ((hb3.block w.heap.size HS2.out).trans HN2.out); have HS3 : Hid (w.heap.size < w3.heap.size) := Nat.lt_of_lt_of_le HS2.out hb3.size; have p0 := at_cell (i := 0) HN3.out rfl; have p1 := at_cell (i := 1) HN3.out rfl; have p2 := at_cell (i := 2) HN3.out rfl; clear hb3)
          | (go_at_call 6; refine (HG.out _ HB0.out).mono ?_; rintro e w2 ⟨he, hb2⟩; obtain rfl := he.no (fun h => h GS.out); have HB2 := Lib.hid (HB0.out.trans (hb2.mono HB0.out.size)); have HN2 := Lib.hid ((hb2.block w.heap.size HS0.out).trans H0.out); have HS2 : Hid (w.heap.size < w2.heap.size) := Nat.lt_of_lt_of_le HS0.out hb2.size; have p0 := at_cell (i := 0) HN2.out rfl; have p1 := at_cell (i := 1) HN2.out rfl; have p2 := at_cell (i := 2) HN2.out rfl; clear hb2))
        go_ret
        exact ⟨rfl, HB9.out⟩
    · have FWH := Lib.hid fw
      clear hg h hgl hs gsm fw hga hq hol
      go_enter Try.func5, Try.ntmps5
      go_wp2_with (first
        | (go_at_call 8; refine (qfixed_any _).mono ?_; rintro e w9 ⟨rfl, hb9⟩; have HB9 := Lib.hid (HB3.out.trans (hb9.mono HB3.out.size)); clear hb9)
        | (go_at_call 7; refine (HFW.out _ HB2.out).mono ?_; rintro e w3 ⟨he3, hb3⟩; obtain rfl := he3.no FWH.out; have HB3 := Lib.hid (HB2.out.trans (hb3.mono HB2.out.size)); have HN3 := Lib.hid ((hb3.block w.heap.size HS2.out).trans HN2.out); have HS3 : Hid (w.heap.size < w3.heap.size) := Nat.lt_of_lt_of_le HS2.out hb3.size; have p0 := at_cell (i := 0) HN3.out rfl; have p1 := at_cell (i := 1) HN3.out rfl; have p2 := at_cell (i := 2) HN3.out rfl; clear hb3)
        | (go_at_call 6; refine (HG.out _ HB0.out).mono ?_; rintro e w2 ⟨he, hb2⟩; obtain rfl := he.no (fun h => h GS.out); have HB2 := Lib.hid (HB0.out.trans (hb2.mono HB0.out.size)); have HN2 := Lib.hid ((hb2.block w.heap.size HS0.out).trans H0.out); have HS2 : Hid (w.heap.size < w2.heap.size) := Nat.lt_of_lt_of_le HS0.out hb2.size; have p0 := at_cell (i := 0) HN2.out rfl; have p1 := at_cell (i := 1) HN2.out rfl; have p2 := at_cell (i := 2) HN2.out rfl; clear hb2))
      go_ret
      exact ⟨rfl, HB9.out⟩
  · have GS := Lib.hid gsm
    clear hg h hgl hs gsm hga hq hol
    go_enter Try.func5, Try.ntmps5
    go_wp2_with (first
      | (go_at_call 8; refine (qfixed_any _).mono ?_; rintro e w9 ⟨rfl, hb9⟩; have HB9 := Lib.hid (HB2.out.trans (hb9.mono HB2.out.size)); clear hb9)
      | (go_at_call 6; refine (HG.out _ HB0.out).mono ?_; rintro e w2 ⟨he, hb2⟩; obtain rfl := he.yes GS.out; have HB2 := Lib.hid (HB0.out.trans (hb2.mono HB0.out.size)); have HN2 := Lib.hid ((hb2.block w.heap.size HS0.out).trans H0.out); have HS2 : Hid (w.heap.size < w2.heap.size) := Nat.lt_of_lt_of_le HS0.out hb2.size; have p0 := at_cell (i := 0) HN2.out rfl; have p1 := at_cell (i := 1) HN2.out rfl; have p2 := at_cell (i := 2) HN2.out rfl; clear hb2))
    go_ret
    exact ⟨rfl, HB9.out⟩

end Go.Proofs.Ytacjiojfjkonkaa

/- The way down: a step that came in. -/
namespace Go.Proofs.Ytacjiojfjkonkaa
open Go.ChangeShapes Go.WideShapes Go.ChangeAt Go.RowKit Go.Deep

set_option maxRecDepth 100000 in
theorem open_stepv {H : Type} {enc : TypeId × Value → H} {W : World} {v : Value} {d : DataW H} {ps : List MemPlace} {r0 : Reach} {b0 : Nat} (hval : Value.okWide Try.prog W r0 b0 44 v) (hd : DataW.Trod enc Try.prog W 0 (fun _ => true) true 44 v d ps) :
    ∃ x : Stp, v = x.val ∧ x.name.length ≤ maxLen := by
  obtain ⟨cs, rfl, _⟩ := okWide_struct Try.underlying44 hval
  obtain ⟨fuel, hf⟩ := hd
  obtain ⟨x, h1, h2⟩ := open_scells hf
  refine ⟨x, ?_, h2⟩
  have : cs = x.cells.toArray := by
    apply Array.ext'
    simpa [Value.cells] using h1
  rw [this]
  rfl

end Go.Proofs.Ytacjiojfjkonkaa

/- The way up for a law: it answered true, and of what was there nothing has turned: then its row's close holds, whatever its arguments are. -/
namespace Go.Proofs.Ytacjiojfjkonkaa
open Go.ChangeShapes Go.WideShapes Go.ChangeAt Go.RowKit

theorem trodAll_below {H : Type} {enc : TypeId × Value → H} {P : Program} (hl : laidOutB P = true) {W W' : World} (hb : Below W.heap.size W W') :
    ∀ {ts : List TypeId} {vs : List Value} {ds : List (DataW H)} {ps : List MemPlace}, (∀ t ∈ ts, P.readableRec t = true ∧ t < P.types.size) →
      DataW.TrodAll enc P W 0 (fun _ => true) true ts vs ds ps → (∀ x ∈ ps, x.block < W.heap.size) → DataW.TrodAll enc P W' 0 (fun b => decide (b < W.heap.size)) true ts vs ds ps
  | [], vs, ds, ps, _, h, _ => by
    obtain ⟨rfl, rfl, rfl⟩ := trodAll_nil h
    exact trodAll_mk0
  | t :: ts, vs, ds, ps, hr, h, hlt => by
    obtain ⟨v, vs1, d, ds1, a, b, rfl, rfl, rfl, h1, h2⟩ := trodAll_cons h
    have ht := hr t (by simp)
    exact trodAll_cons_mk (Below.trod hl ht.1 ht.2 h1 hb (fun x hx => hlt x (by simp [hx])))
      (trodAll_below hl hb (fun t' h' => hr t' (by simp [h'])) h2 (fun x hx => hlt x (by simp [hx])))

theorem law_post {H : Type} {enc : TypeId × Value → H} {P : Program} {f : Func} {s : ChangeSpec} {tb : TypeId} (hl : laidOutB P = true) (htb : P.underlying tb = some .bool)
    (hres : f.resultTypes = #[tb]) (hpar : ∀ t ∈ f.params.toList, P.readableRec t = true ∧ t < P.types.size) (hvars : s.vars = [])
    {W W' : World} {args : Array Value} {ds gs : List (DataW H)} {before : List MemPlace}
    (hW : DataW.Whole enc P f.params.toList s.vars false W args.toList ds gs before) (hb : Below W.heap.size W W')
    (hfn : s.fn H (ds ++ gs) = { results := [.lit (.bool true)], args := ds, vars := [] }) :
    s.post enc P f false true false false W args (.bool true) W' := by
  have hW' := hW
  obtain ⟨p, q, hA, hV, rfl, _, _⟩ := hW
  rw [hvars] at hV
  obtain ⟨rfl, rfl⟩ := trodVars_none hV
  refine ⟨ds, [], p ++ [], [], p, [], hW', ?_, ?_, ?_, hb.frame _, fun h => by cases h⟩
  · rw [hfn, hres]
    exact trodAll_mk1 (shut_bool htb true)
  · rw [hfn]
    exact trodAll_below hl hb hpar hA (fun x hx => by simpa using hW'.lt x (by simpa using hx))
  · rw [hfn, hvars]
    exact rfl

end Go.Proofs.Ytacjiojfjkonkaa

/- Proved: RuleOnly answers true at any arguments, in any memory; nothing that was there is changed. No condition. -/
namespace Go.Proofs.Ytacjiojfjkonkaa.only
open Go.ChangeShapes Go.WideShapes Go.ChangeAt Go.RowKit

theorem own : ownKnob Try.prog.godebug = none := by kernel_rfl
theorem laidOut : laidOutB Try.prog = true := by kernel_rfl

set_option maxRecDepth 100000 in
theorem lifted (os : Os) (started : os.Started) (H : Type) (enc : TypeId × Value → H) :
    ReturnsInHanded {} Try.checked os 5 .any (Rows.ruleOnlySpec.pre6 enc Try.prog Try.f5 Rows.ruleOnlyRow.domain false) (Rows.ruleOnlySpec.post enc Try.prog Try.f5 false true false false) := by
  refine returnsInHanded_of_change (C := Try.checked) own started (by kernel_rfl) Try.func5
    (ChangeSpec.witness6 (enc := enc) (C := Try.checked) false ⟨#[], #[.slice none 0 0, .slice none 0 0, .agg #[.string { data := #[] }, .bool false, .int .u64 0]], []⟩ 8 (by kernel_rfl) (by kernel_rfl) (by kernel_rfl) (by kernel_rfl)) ?_
  intro W base args ds gs before hval0 hW hcnd _
  have hval : ∀ (j : Nat) t v, Try.f5.params[j]? = some t → args[j]? = some v → Value.okWide Try.prog W .any base t v := hval0
  have hW' := hW
  obtain ⟨p, q, hA0, hV, rfl, hfz, hnd⟩ := hW
  have hA : DataW.TrodAll enc Try.prog W 0 (fun _ => true) true Try.f5.params.toList args.toList ds p := hA0
  rw [Try.params5] at hA hval
  obtain ⟨v0, v1, v2, d0, d1, d2, p0, p1, p2, rfl, rfl, rfl, h0, h1, h2⟩ := trodAll_three hA
  obtain ⟨rfl, rfl⟩ := trodVars_none hV
  obtain ⟨A, n, c, xs, rfl, hnc, hcm, hac, hg, hr⟩ := open_nodesq (hval 0 22 v0 rfl rfl) h0
  obtain ⟨G, gn, gc, gs, rfl, hgc, hgm, hga, hgl, hgs⟩ := open_steps (hval 1 23 v1 rfl rfl) h1
  obtain ⟨o, rfl, hol⟩ := open_stepv (hval 2 44 v2 rfl rfl) h2
  refine (ronly_any A n c xs hnc hcm G gn gc gs (by omega) hga o hol W hg hr hgl hgs).mono fun e W' ⟨he, hb⟩ => ?_
  subst he
  exact ⟨_, rfl, law_post laidOut Try.underlying4 rfl (fun t ht => ⟨by revert t; decide +kernel, by revert t; decide +kernel⟩) rfl hW' hb rfl⟩

theorem proved : Rows.RuleOnlySaid :=
  OpenClaim.holds_of_wide 5 Try.f5 rfl rfl rfl rfl rfl rfl rfl ⟨rfl, rfl, rfl, rfl, rfl⟩ rfl rfl rfl rfl rfl (by kernel_rfl) Try.func5 (by kernel_rfl)
    (of_decide_eq_true (by kernel_rfl)) (by unfold Func.isWrapper; first | (rw [if_pos (by decide +kernel)]; kernel_rfl) | (rw [if_neg (by decide +kernel)]; exact ⟨rfl, rfl⟩))
    (fun os started H enc _ => lifted os started H enc)

end Go.Proofs.Ytacjiojfjkonkaa.only
