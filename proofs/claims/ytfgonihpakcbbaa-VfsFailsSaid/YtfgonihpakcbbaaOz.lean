/- VfsFails. -/
import Derived.Test.YtfgonihpakcbbaaOz0
namespace Go.Proofs.Ytfgonihpakcbbaa
open Go.RowKit

set_option maxRecDepth 100000 in
set_option maxHeartbeats 4000000 in
theorem vfails_any (A : Option Addr) (n c : Nat) (xs : List Aw) (m : Nat) (fb : Bool) (hnc : n ≤ c) (hcm : c ≤ maxLen) (hm : m ≤ 255) (w : World) (h : Acts w w.heap.size A n xs) :
    Calls Try.prog 4 #[.slice A n c, .int .u8 (m : Int), .bool fb] w fun e w' => e = .returned (.bool true) ∧ Below w.heap.size w w' := by
  have HX := Lib.hid h
  have HL := Lib.hid h.len
  have HGR := Lib.hid (vgreat_any A n c xs (Nat.le_trans hnc hcm) w h)
  clear h hcm hnc
  go_enter Try.func4, Try.ntmps4
  go_wp2_with fail
  refine HGR.out.mono ?_
  rintro e w1 ⟨⟨qg, rfl, hq⟩, hb1⟩
  have HB1 := Lib.hid hb1
  clear hb1
  cases qg with
  | true =>
    go_wp2_with fail
    refine (vfixed_any _).mono ?_
    rintro e w2 ⟨rfl, hb2⟩
    have HB2 := Lib.hid (HB1.out.trans (hb2.mono HB1.out.size))
    clear hb2
    go_wp2
    go_ret
    exact ⟨rfl, HB2.out⟩
  | false =>
    have HSM := Lib.hid (hq rfl)
    clear hq HGR
    have hmw : IntKind.i64.wrap (m : Int) = (m : Int) := wrap_small _ (by omega) (by omega)
    go_wp2_with fail
    refine (new_any 0 w1).mono ?_
    rintro e w2 ⟨rfl, hx2, hf2, hb2⟩
    obtain ⟨p, hp⟩ : ∃ p, p = w1.heap.size + 1 := ⟨_, rfl⟩
    obtain ⟨b, hb⟩ : ∃ b, b = w1.heap.size := ⟨_, rfl⟩
    rw [← hp, ← hb] at hx2
    rw [← hb] at hf2
    rw [← hp]
    have HX2 := Lib.hid hx2
    have HF2 := Lib.hid hf2
    have HB2 := Lib.hid (HB1.out.trans (hb2.mono HB1.out.size))
    have HS2 : Hid (∀ k, FsBlk p b (fun _ => none) k → w.heap.size ≤ k) := fun k hk => by
      have := HB1.out.size
      rcases hk with h | h | ⟨u, A, n, c, s, h, _⟩
      · omega
      · omega
      · cases h
    have hn80 : n ≤ 80 := by have := HSM.out.1; have := HL.out; omega
    have hpw : w.heap.size ≤ p := HS2.out p (.inl rfl)
    clear hx2 hf2 hb2 hp hb
    cases fb with
    | true =>
      go_wp2_with fail
      refine (fall_any p b false (false, 0) (false, 0) (m : Int) w2 HX2.out).mono ?_
      rintro e w3 ⟨rfl, hx3, ht3⟩
      have HF3 : Hid (FsAt w3 0 p b 0 ⟨fun _ => none, false, (false, 0), askOf (m : Int)⟩ (fun _ => none)) := ⟨hx3, files_past2 HF2.out HX2.out ht3⟩
      have HB3 : Hid (Below w.heap.size w w3) := HB2.out.trans (ht3.below (fun i hi => by rw [hi]; exact hpw) HB2.out.size)
      have HA3 := Lib.hid (asked_yes m)
      have HG3 : Hid (Good ⟨fun _ => none, false, (false, 0), askOf (m : Int)⟩ 0) := ⟨good_start.few, good_start.each, ask0, askOf_in (by omega)⟩
      clear hx3 ht3
      go_wp2
      go_loopw [33, 8] (fun idx vc wr => ∃ (i cnt N : Nat) (σ : FsSt) (F : List UInt8 → Option Value), i ≤ n ∧ cnt ≤ i ∧ idx = .int .i64 (i : Int) ∧ vc = .int .i64 (cnt : Int) ∧ FsAt wr 0 p b N σ F ∧ Good σ i ∧ N ≤ 100 * i ∧ AskedB true m cnt σ ∧ (∀ k, FsBlk p b F k → w.heap.size ≤ k) ∧ Below w.heap.size w wr) (fun idx _ _ => n - (intOf idx).toNat)
      case atStart => exact ⟨0, 0, 0, _, _, by omega, by omega, rfl, rfl, HF3.out, HG3.out, by omega, HA3.out, HS2.out, HB3.out⟩
      case round =>
        obtain ⟨i, cnt, N, σ, F, hi, hci, rfl, rfl, hfs, hgd, hN, has, hs, hb⟩ := hrel
        have HFS := Lib.hid hfs
        have HGD := Lib.hid hgd
        have HAS := Lib.hid has
        have HS := Lib.hid hs
        have HB := Lib.hid hb
        have HN : Hid (N ≤ 100 * i) := hN
        have HCI : Hid (cnt ≤ i) := hci
        have hcn : cnt ≤ 80 := by omega
        by_cases hlt : i < n
        · obtain ⟨x, hx⟩ : ∃ x, xs[i]? = some x := ⟨_, List.getElem?_eq_getElem (by rw [HL.out]; exact hlt)⟩
          obtain ⟨ad, rfl, hab, e0, e1, e2, e3, e4, e5⟩ := acts_cells (HX.out.below hb).1 i x hx
          have hmx := List.mem_of_getElem? hx
          have hin := HX.out.2 x hmx
          have hsm := HSM.out.2 x hmx
          have hal : ∀ o : Obj, Below w.heap.size w (wr.alloc o) := fun o => hb.alloc hb.size o
          have hwa : ∀ o : Obj, Below wr.heap.size wr (wr.alloc o) := fun o => (Below.refl _ _).alloc (Nat.le_refl _) o
          have hdo : ∀ wB : World, Below w.heap.size w wB → FsAt wB 0 p b N σ F → Calls Try.prog 8 #[.pointer (some ⟨p, 0, none⟩), x.val] wB fun e w' => ∃ e0, e = .returned (.int .i64 e0) ∧ Did 0 p b N σ F x.a wB e0 w' := fun wB hwB hfB => do_any p b N 0 w.heap.size σ F x (by omega) (fun u y hu => (by have := hgd.each u y hu; unfold maxLen; omega)) hgd.hf hgd.hg wB (Nat.zero_le _) hwB.size hfB hs (hin.below hwB) (by have := hin.blen; have := hsm.1; omega)
          have hHN : x.a.n ≤ 9223372036854775807 := hin.hn
          obtain ⟨⟨kd, nm, to, body, z, keep⟩, xA, xk, xc, xK, xkn, xkc⟩ := x
          simp only at e0 e1 e2 e3 e4 e5 hHN
          have hnew := one_new wr (.cells #[.int .i64 kd, .string (tx nm), .string (tx to), .slice xA xk xc, .int .i64 z, .slice xK xkn xkc] 30)
          have q0 := at_cell (i := 0) hnew rfl
          have HNEW := Lib.hid hnew
          have HAL := Lib.hid (hal (.cells #[.int .i64 kd, .string (tx nm), .string (tx to), .slice xA xk xc, .int .i64 z, .slice xK xkn xkc] 30))
          have HWA := Lib.hid (hwa (.cells #[.int .i64 kd, .string (tx nm), .string (tx to), .slice xA xk xc, .int .i64 z, .slice xK xkn xkc] 30))
          have HI : Hid (i < n) := hlt
          have hi0 : (0 : Int) ≤ (i : Int) := by omega
          have hi1 : (i : Int) < (n : Int) := by omega
          by_cases hkin : 0 ≤ kd ∧ kd ≤ 4
          · have hk0 : ¬ kd < 0 := by omega
            have hk4 : ¬ kd > 4 := by omega
            have HKIN := Lib.hid hkin
            have HDO : Hid (∀ wB : World, Below w.heap.size w wB → FsAt wB 0 p b N σ F → Calls Try.prog 8 #[.pointer (some ⟨p, 0, none⟩), .agg #[.int .i64 kd, .string (tx nm), .string (tx to), .slice xA xk xc, .int .i64 z, .slice xK xkn xkc]] wB fun e w' => ∃ e0, e = .returned (.int .i64 e0) ∧ Did 0 p b N σ F ⟨kd, nm, to, body, z, keep⟩ wB e0 w') := hdo
            have HST : Hid (∀ σ' e0, StepR σ ⟨kd, nm, to, body, z, keep⟩ σ' e0 → Good σ' (i + 1)) := fun σ' e0 hst => good_step HGD.out hsm hHN hst
            have HNM := Lib.hid hgd.names
            have HLTF := Lib.hid (blk_lt hfs.2 hfs.1)
            obtain ⟨wA, hwA⟩ : ∃ x, x = wr.alloc (.cells #[.int .i64 kd, .string (tx nm), .string (tx to), .slice xA xk xc, .int .i64 z, .slice xK xkn xkc] 30) := ⟨_, rfl⟩
            have HWE := Lib.hid hwA
            obtain ⟨ob, hob⟩ : ∃ ob, ob = wr.heap.size := ⟨_, rfl⟩
            have HOB := Lib.hid hob
            have HNEWA : Hid (wA.heap[ob]? = some (.cells #[.int .i64 kd, .string (tx nm), .string (tx to), .slice xA xk xc, .int .i64 z, .slice xK xkn xkc] 30)) := (by show _ = _; rw [hwA, hob]; exact HNEW.out)
            have HALA : Hid (Below w.heap.size w wA) := (by rw [hwA]; exact HAL.out)
            have HFA : Hid (FsAt wA 0 p b N σ F) := (by rw [hwA]; exact HFS.out.below HWA.out)
            clear hx hmx hin hsm hal hwa hdo hHN hnew hfs hgd hs hb hN has hci hkin hlt hwA hob
            go_wp2_with fail
            rw [← HWE.out, ← HOB.out]
            refine (copy_any p b N 0 σ.down σ.f σ.g σ.fl F (by have := HN.out; omega) (fun u y hu => by have := HGD.out.each u y hu; omega) wA HFA.out.1 HFA.out.2).mono ?_
            rintro e wB ⟨p2, b2, F2, rfl, hxB, hfB, hbB, hbkB⟩
            have HWB : Hid (FsAt wB wA.heap.size p2 b2 N σ F2) := ⟨hxB, hfB⟩
            have HFB := Lib.hid (HFA.out.below hbB)
            have HBB := Lib.hid (HALA.out.trans (hbB.mono HALA.out.size))
            have HBKB := Lib.hid hbkB
            have HNEWB := Lib.hid ((hbB.block ob (lt_heapv HNEWA.out)).trans HNEWA.out)
            clear hxB hfB hbB hbkB q0
            have q0 := at_cell (i := 0) HNEWB.out rfl
            have q1 := at_cell (i := 1) HNEWB.out rfl
            have q2 := at_cell (i := 2) HNEWB.out rfl
            have q3 := at_cell (i := 3) HNEWB.out rfl
            have q4 := at_cell (i := 4) HNEWB.out rfl
            have q5 := at_cell (i := 5) HNEWB.out rfl
            go_wp2_with fail
            refine (down_any p b _ _ _ wB HFB.out.1).mono ?_
            rintro e wq ⟨rfl, rfl⟩
            go_wp2_with fail
            refine (HDO.out wB HBB.out HFB.out).mono ?_
            rintro e wC ⟨ec, rfl, σ', N', F', hfs', hN', ht', hsub', hst'⟩
            have HFC := Lib.hid hfs'
            have HGD' := Lib.hid (HST.out σ' ec hst')
            have HN' : Hid (N' ≤ 100 * (i + 1)) := (by have h1 := hN' i HNM.out; have h2 := HN.out; have h3 := HI.out; show _ ≤ _; omega)
            have HS' : Hid (∀ k, FsBlk p b F' k → w.heap.size ≤ k) := fun k hk => by
              rcases hsub' k hk with h | h
              · exact HS.out k h
              · exact Nat.le_trans HBB.out.size h
            have HBC : Hid (Below w.heap.size w wC) := HBB.out.trans (ht'.below HS.out HBB.out.size)
            have HWC : Hid (FsAt wC wA.heap.size p2 b2 N σ F2) := FsAt.past HWB.out ht' (fun k hk h => by have h1 := HBKB.out k hk; have h2 := HLTF.out k h; have h3 := HWA.out.size; rw [← HWE.out] at h3; omega)
            have HNEWC : Hid (wC.heap[ob]? = some (.cells #[.int .i64 kd, .string (tx nm), .string (tx to), .slice xA xk xc, .int .i64 z, .slice xK xkn xkc] 30)) := (ht'.2.2.2.2 ob (lt_heapv HNEWB.out) (fun h => by have h2 := HLTF.out ob h; have h3 := HOB.out; omega)).trans HNEWB.out
            have HCASE := fails_step HAS.out HKIN.out.1 HKIN.out.2 hst'
            have HBD0 : Hid (Below wC.heap.size wC wC) := Below.refl _ _
            have HBOX : Hid (∀ W : World, Below wC.heap.size wC W → W.heap[ob]? = some (.cells #[.int .i64 kd, .string (tx nm), .string (tx to), .slice xA xk xc, .int .i64 z, .slice xK xkn xkc] 30)) := fun W hW => (hW.block ob (lt_heapv HNEWC.out)).trans HNEWC.out
            clear hfs' hN' ht' hsub' hst' HDO q0 q1 q2 q3 q4 q5
            have q00 := at_cell (i := 0) HNEWC.out rfl
            rcases HCASE with ⟨he, hc⟩ | ⟨hne, hd, hd', hc, has'⟩ | ⟨hcm, hfb, hd, hd', hc, has', hfl⟩ | ⟨hcm, hfb, hd, hd', hc, has', hfl⟩
            · have HAS' : Hid (AskedB true m cnt σ') := (by rw [he]; exact HAS.out)
              have HEQ : Hid (σ'.fl = σ.fl) := (by rw [he]; exact rfl)
              rcases hc with ⟨hd, rfl⟩ | ⟨hd, rfl | rfl⟩
              · have hd' : σ'.down = true := by rw [he]; exact hd
                clear he
                rw [hd]
                have HSAME : Hid (∀ W : World, Below wC.heap.size wC W → Calls Try.prog 18 #[.pointer (some ⟨p, 0, none⟩), .pointer (some ⟨p2, 0, none⟩)] W fun e w' => e = .returned (.bool true) ∧ Below W.heap.size W w') := fun W hW => by
                  have h1 := HFC.out.below hW
                  have h2 := HWC.out.below hW
                  exact samefs_any p b N' 0 p2 b2 N _ σ'.down σ.down _ _ _ _ σ'.fl F' F2 (by have := HN'.out; omega) (by have := HN.out; omega) (fun u y hu => by have := HGD'.out.each u y hu; unfold maxLen; omega) W h1.1 h1.2 h2.1 (by rw [HEQ.out]; exact h2.2)
                go_wp2_with fail
                refine (down_any p b _ _ _ wC HFC.out.1).mono ?_
                rintro e wq ⟨rfl, rfl⟩
                rw [hd']
                go_wp2_with fail
                refine (HSAME.out wC HBD0.out).mono ?_
                rintro e wx1 ⟨rfl, hb9⟩
                have HBD1 := Lib.hid (HBD0.out.trans (hb9.mono HBD0.out.size))
                have q01 := at_cell (i := 0) (HBOX.out wx1 HBD1.out) rfl
                clear hb9 q00
                go_wp2
                exact ⟨⟨i + 1, cnt, N', σ', F', HI.out, by have := HCI.out; omega, rfl, rfl, HFC.out.below HBD1.out, HGD'.out, HN'.out, HAS'.out, HS'.out, HBC.out.trans (HBD1.out.mono HBC.out.size)⟩, by show n - (i + 1) < n - i; have := HI.out; omega⟩
              · have hd' : σ'.down = false := by rw [he]; exact hd
                clear he
                rw [hd]
                have HSAME : Hid (∀ W : World, Below wC.heap.size wC W → Calls Try.prog 18 #[.pointer (some ⟨p, 0, none⟩), .pointer (some ⟨p2, 0, none⟩)] W fun e w' => e = .returned (.bool true) ∧ Below W.heap.size W w') := fun W hW => by
                  have h1 := HFC.out.below hW
                  have h2 := HWC.out.below hW
                  exact samefs_any p b N' 0 p2 b2 N _ σ'.down σ.down _ _ _ _ σ'.fl F' F2 (by have := HN'.out; omega) (by have := HN.out; omega) (fun u y hu => by have := HGD'.out.each u y hu; unfold maxLen; omega) W h1.1 h1.2 h2.1 (by rw [HEQ.out]; exact h2.2)
                go_wp2_with fail
                refine (down_any p b _ _ _ wC HFC.out.1).mono ?_
                rintro e wq ⟨rfl, rfl⟩
                rw [hd']
                go_wp2_with fail
                refine (HSAME.out wC HBD0.out).mono ?_
                rintro e wx1 ⟨rfl, hb9⟩
                have HBD1 := Lib.hid (HBD0.out.trans (hb9.mono HBD0.out.size))
                have q01 := at_cell (i := 0) (HBOX.out wx1 HBD1.out) rfl
                clear hb9 q00
                go_wp2
                exact ⟨⟨i + 1, cnt, N', σ', F', HI.out, by have := HCI.out; omega, rfl, rfl, HFC.out.below HBD1.out, HGD'.out, HN'.out, HAS'.out, HS'.out, HBC.out.trans (HBD1.out.mono HBC.out.size)⟩, by show n - (i + 1) < n - i; have := HI.out; omega⟩
              · have hd' : σ'.down = false := by rw [he]; exact hd
                clear he
                rw [hd]
                have HSAME : Hid (∀ W : World, Below wC.heap.size wC W → Calls Try.prog 18 #[.pointer (some ⟨p, 0, none⟩), .pointer (some ⟨p2, 0, none⟩)] W fun e w' => e = .returned (.bool true) ∧ Below W.heap.size W w') := fun W hW => by
                  have h1 := HFC.out.below hW
                  have h2 := HWC.out.below hW
                  exact samefs_any p b N' 0 p2 b2 N _ σ'.down σ.down _ _ _ _ σ'.fl F' F2 (by have := HN'.out; omega) (by have := HN.out; omega) (fun u y hu => by have := HGD'.out.each u y hu; unfold maxLen; omega) W h1.1 h1.2 h2.1 (by rw [HEQ.out]; exact h2.2)
                go_wp2_with fail
                refine (down_any p b _ _ _ wC HFC.out.1).mono ?_
                rintro e wq ⟨rfl, rfl⟩
                rw [hd']
                go_wp2_with fail
                refine (HSAME.out wC HBD0.out).mono ?_
                rintro e wx1 ⟨rfl, hb9⟩
                have HBD1 := Lib.hid (HBD0.out.trans (hb9.mono HBD0.out.size))
                have q01 := at_cell (i := 0) (HBOX.out wx1 HBD1.out) rfl
                clear hb9 q00
                go_wp2
                exact ⟨⟨i + 1, cnt, N', σ', F', HI.out, by have := HCI.out; omega, rfl, rfl, HFC.out.below HBD1.out, HGD'.out, HN'.out, HAS'.out, HS'.out, HBC.out.trans (HBD1.out.mono HBC.out.size)⟩, by show n - (i + 1) < n - i; have := HI.out; omega⟩
            · have HAS' := Lib.hid has'
              subst hc
              rw [hd]
              clear has'
              have hne2 : ¬ ((cnt : Int) = (m : Int)) := by omega
              have hw1 : IntKind.i64.wrap ((cnt : Int) + 1) = (cnt : Int) + 1 := wrap_small _ (by omega) (by omega)
              go_wp2_with fail
              refine (down_any p b _ _ _ wC HFC.out.1).mono ?_
              rintro e wq ⟨rfl, rfl⟩
              rw [hd']
              go_wp2
              exact ⟨⟨i + 1, cnt + 1, N', σ', F', HI.out, by have := HCI.out; omega, rfl, rfl, HFC.out.below HBD0.out, HGD'.out, HN'.out, HAS'.out, HS'.out, HBC.out.trans (HBD0.out.mono HBC.out.size)⟩, by show n - (i + 1) < n - i; have := HI.out; omega⟩
            · have HAS' := Lib.hid has'
              subst hc
              subst hcm
              rw [hd]
              clear has'
              have hw1 : IntKind.i64.wrap ((cnt : Int) + 1) = (cnt : Int) + 1 := wrap_small _ (by omega) (by omega)
              have HEQ0 : Hid (kd ≠ 0 → σ'.fl = σ.fl) := hfl
              clear hfb hfl
              by_cases hkz : kd = 0
              · have hkz : kd = 0 := hkz
                subst hkz
                go_wp2_with fail
                refine (down_any p b _ _ _ wC HFC.out.1).mono ?_
                rintro e wq ⟨rfl, rfl⟩
                rw [hd']
                go_wp2
                exact ⟨⟨i + 1, cnt + 1, N', σ', F', HI.out, by have := HCI.out; omega, rfl, rfl, HFC.out.below HBD0.out, HGD'.out, HN'.out, HAS'.out, HS'.out, HBC.out.trans (HBD0.out.mono HBC.out.size)⟩, by show n - (i + 1) < n - i; have := HI.out; omega⟩
              · have HEQ : Hid (σ'.fl = σ.fl) := HEQ0.out hkz
                have HSAME : Hid (∀ W : World, Below wC.heap.size wC W → Calls Try.prog 18 #[.pointer (some ⟨p, 0, none⟩), .pointer (some ⟨p2, 0, none⟩)] W fun e w' => e = .returned (.bool true) ∧ Below W.heap.size W w') := fun W hW => by
                  have h1 := HFC.out.below hW
                  have h2 := HWC.out.below hW
                  exact samefs_any p b N' 0 p2 b2 N _ σ'.down σ.down _ _ _ _ σ'.fl F' F2 (by have := HN'.out; omega) (by have := HN.out; omega) (fun u y hu => by have := HGD'.out.each u y hu; unfold maxLen; omega) W h1.1 h1.2 h2.1 (by rw [HEQ.out]; exact h2.2)
                go_wp2_with fail
                refine (down_any p b _ _ _ wC HFC.out.1).mono ?_
                rintro e wq ⟨rfl, rfl⟩
                rw [hd']
                go_wp2_with fail
                refine (HSAME.out wC HBD0.out).mono ?_
                rintro e wx1 ⟨rfl, hb9⟩
                have HBD1 := Lib.hid (HBD0.out.trans (hb9.mono HBD0.out.size))
                have q01 := at_cell (i := 0) (HBOX.out wx1 HBD1.out) rfl
                clear hb9 q00
                go_wp2
                exact ⟨⟨i + 1, cnt + 1, N', σ', F', HI.out, by have := HCI.out; omega, rfl, rfl, HFC.out.below HBD1.out, HGD'.out, HN'.out, HAS'.out, HS'.out, HBC.out.trans (HBD1.out.mono HBC.out.size)⟩, by show n - (i + 1) < n - i; have := HI.out; omega⟩
            · cases hfb
          · have HNO : Hid (kd < 0 ∨ kd > 4) := (by show _ ∨ _; omega)
            have HGM := Lib.hid hgd.more
            clear hx hmx hin hsm hal hwa hdo hHN hnew hfs hgd hs hb hN has hci hlt
            have HFA : Hid (FsAt (wr.alloc (.cells #[.int .i64 kd, .string (tx nm), .string (tx to), .slice xA xk xc, .int .i64 z, .slice xK xkn xkc] 30)) 0 p b N σ F) := HFS.out.below HWA.out
            rcases HNO.out with hk | hk
            · go_wp2
              exact ⟨⟨i + 1, cnt, N, σ, F, HI.out, by have := HCI.out; omega, rfl, rfl, HFA.out, HGM.out, by have := HN.out; omega, HAS.out, HS.out, HAL.out⟩, by show n - (i + 1) < n - i; have := HI.out; omega⟩
            · have hk2 : ¬ kd < 0 := by omega
              go_wp2
              exact ⟨⟨i + 1, cnt, N, σ, F, HI.out, by have := HCI.out; omega, rfl, rfl, HFA.out, HGM.out, by have := HN.out; omega, HAS.out, HS.out, HAL.out⟩, by show n - (i + 1) < n - i; have := HI.out; omega⟩
        · obtain rfl : i = n := by omega
          clear hfs hgd hs hb hN has hci hlt
          go_wp2_with fail
          refine (vfixed_any _).mono ?_
          rintro e w11 ⟨rfl, hb11⟩
          have HB11 := Lib.hid (HB.out.trans (hb11.mono HB.out.size))
          clear hb11
          go_wp2
          go_ret
          exact ⟨rfl, HB11.out⟩
    | false =>
      go_wp2_with fail
      refine (fail_any p b false (false, 0) (false, 0) (m : Int) w2 HX2.out).mono ?_
      rintro e w3 ⟨rfl, hx3, ht3⟩
      have HF3 : Hid (FsAt w3 0 p b 0 ⟨fun _ => none, false, askOf (m : Int), (false, 0)⟩ (fun _ => none)) := ⟨hx3, files_past2 HF2.out HX2.out ht3⟩
      have HB3 : Hid (Below w.heap.size w w3) := HB2.out.trans (ht3.below (fun i hi => by rw [hi]; exact hpw) HB2.out.size)
      have HA3 := Lib.hid (asked_no m)
      have HG3 : Hid (Good ⟨fun _ => none, false, askOf (m : Int), (false, 0)⟩ 0) := ⟨good_start.few, good_start.each, askOf_in (by omega), ask0⟩
      clear hx3 ht3
      go_wp2
      go_loopw [33, 8] (fun idx vc wr => ∃ (i cnt N : Nat) (σ : FsSt) (F : List UInt8 → Option Value), i ≤ n ∧ cnt ≤ i ∧ idx = .int .i64 (i : Int) ∧ vc = .int .i64 (cnt : Int) ∧ FsAt wr 0 p b N σ F ∧ Good σ i ∧ N ≤ 100 * i ∧ AskedB false m cnt σ ∧ (∀ k, FsBlk p b F k → w.heap.size ≤ k) ∧ Below w.heap.size w wr) (fun idx _ _ => n - (intOf idx).toNat)
      case atStart => exact ⟨0, 0, 0, _, _, by omega, by omega, rfl, rfl, HF3.out, HG3.out, by omega, HA3.out, HS2.out, HB3.out⟩
      case round =>
        obtain ⟨i, cnt, N, σ, F, hi, hci, rfl, rfl, hfs, hgd, hN, has, hs, hb⟩ := hrel
        have HFS := Lib.hid hfs
        have HGD := Lib.hid hgd
        have HAS := Lib.hid has
        have HS := Lib.hid hs
        have HB := Lib.hid hb
        have HN : Hid (N ≤ 100 * i) := hN
        have HCI : Hid (cnt ≤ i) := hci
        have hcn : cnt ≤ 80 := by omega
        by_cases hlt : i < n
        · obtain ⟨x, hx⟩ : ∃ x, xs[i]? = some x := ⟨_, List.getElem?_eq_getElem (by rw [HL.out]; exact hlt)⟩
          obtain ⟨ad, rfl, hab, e0, e1, e2, e3, e4, e5⟩ := acts_cells (HX.out.below hb).1 i x hx
          have hmx := List.mem_of_getElem? hx
          have hin := HX.out.2 x hmx
          have hsm := HSM.out.2 x hmx
          have hal : ∀ o : Obj, Below w.heap.size w (wr.alloc o) := fun o => hb.alloc hb.size o
          have hwa : ∀ o : Obj, Below wr.heap.size wr (wr.alloc o) := fun o => (Below.refl _ _).alloc (Nat.le_refl _) o
          have hdo : ∀ wB : World, Below w.heap.size w wB → FsAt wB 0 p b N σ F → Calls Try.prog 8 #[.pointer (some ⟨p, 0, none⟩), x.val] wB fun e w' => ∃ e0, e = .returned (.int .i64 e0) ∧ Did 0 p b N σ F x.a wB e0 w' := fun wB hwB hfB => do_any p b N 0 w.heap.size σ F x (by omega) (fun u y hu => (by have := hgd.each u y hu; unfold maxLen; omega)) hgd.hf hgd.hg wB (Nat.zero_le _) hwB.size hfB hs (hin.below hwB) (by have := hin.blen; have := hsm.1; omega)
          have hHN : x.a.n ≤ 9223372036854775807 := hin.hn
          obtain ⟨⟨kd, nm, to, body, z, keep⟩, xA, xk, xc, xK, xkn, xkc⟩ := x
          simp only at e0 e1 e2 e3 e4 e5 hHN
          have hnew := one_new wr (.cells #[.int .i64 kd, .string (tx nm), .string (tx to), .slice xA xk xc, .int .i64 z, .slice xK xkn xkc] 30)
          have q0 := at_cell (i := 0) hnew rfl
          have HNEW := Lib.hid hnew
          have HAL := Lib.hid (hal (.cells #[.int .i64 kd, .string (tx nm), .string (tx to), .slice xA xk xc, .int .i64 z, .slice xK xkn xkc] 30))
          have HWA := Lib.hid (hwa (.cells #[.int .i64 kd, .string (tx nm), .string (tx to), .slice xA xk xc, .int .i64 z, .slice xK xkn xkc] 30))
          have HI : Hid (i < n) := hlt
          have hi0 : (0 : Int) ≤ (i : Int) := by omega
          have hi1 : (i : Int) < (n : Int) := by omega
          by_cases hkin : 0 ≤ kd ∧ kd ≤ 4
          · have hk0 : ¬ kd < 0 := by omega
            have hk4 : ¬ kd > 4 := by omega
            have HKIN := Lib.hid hkin
            have HDO : Hid (∀ wB : World, Below w.heap.size w wB → FsAt wB 0 p b N σ F → Calls Try.prog 8 #[.pointer (some ⟨p, 0, none⟩), .agg #[.int .i64 kd, .string (tx nm), .string (tx to), .slice xA xk xc, .int .i64 z, .slice xK xkn xkc]] wB fun e w' => ∃ e0, e = .returned (.int .i64 e0) ∧ Did 0 p b N σ F ⟨kd, nm, to, body, z, keep⟩ wB e0 w') := hdo
            have HST : Hid (∀ σ' e0, StepR σ ⟨kd, nm, to, body, z, keep⟩ σ' e0 → Good σ' (i + 1)) := fun σ' e0 hst => good_step HGD.out hsm hHN hst
            have HNM := Lib.hid hgd.names
            have HLTF := Lib.hid (blk_lt hfs.2 hfs.1)
            obtain ⟨wA, hwA⟩ : ∃ x, x = wr.alloc (.cells #[.int .i64 kd, .string (tx nm), .string (tx to), .slice xA xk xc, .int .i64 z, .slice xK xkn xkc] 30) := ⟨_, rfl⟩
            have HWE := Lib.hid hwA
            obtain ⟨ob, hob⟩ : ∃ ob, ob = wr.heap.size := ⟨_, rfl⟩
            have HOB := Lib.hid hob
            have HNEWA : Hid (wA.heap[ob]? = some (.cells #[.int .i64 kd, .string (tx nm), .string (tx to), .slice xA xk xc, .int .i64 z, .slice xK xkn xkc] 30)) := (by show _ = _; rw [hwA, hob]; exact HNEW.out)
            have HALA : Hid (Below w.heap.size w wA) := (by rw [hwA]; exact HAL.out)
            have HFA : Hid (FsAt wA 0 p b N σ F) := (by rw [hwA]; exact HFS.out.below HWA.out)
            clear hx hmx hin hsm hal hwa hdo hHN hnew hfs hgd hs hb hN has hci hkin hlt hwA hob
            go_wp2_with fail
            rw [← HWE.out, ← HOB.out]
            refine (copy_any p b N 0 σ.down σ.f σ.g σ.fl F (by have := HN.out; omega) (fun u y hu => by have := HGD.out.each u y hu; omega) wA HFA.out.1 HFA.out.2).mono ?_
            rintro e wB ⟨p2, b2, F2, rfl, hxB, hfB, hbB, hbkB⟩
            have HWB : Hid (FsAt wB wA.heap.size p2 b2 N σ F2) := ⟨hxB, hfB⟩
            have HFB := Lib.hid (HFA.out.below hbB)
            have HBB := Lib.hid (HALA.out.trans (hbB.mono HALA.out.size))
            have HBKB := Lib.hid hbkB
            have HNEWB := Lib.hid ((hbB.block ob (lt_heapv HNEWA.out)).trans HNEWA.out)
            clear hxB hfB hbB hbkB q0
            have q0 := at_cell (i := 0) HNEWB.out rfl
            have q1 := at_cell (i := 1) HNEWB.out rfl
            have q2 := at_cell (i := 2) HNEWB.out rfl
            have q3 := at_cell (i := 3) HNEWB.out rfl
            have q4 := at_cell (i := 4) HNEWB.out rfl
            have q5 := at_cell (i := 5) HNEWB.out rfl
            go_wp2_with fail
            refine (down_any p b _ _ _ wB HFB.out.1).mono ?_
            rintro e wq ⟨rfl, rfl⟩
            go_wp2_with fail
            refine (HDO.out wB HBB.out HFB.out).mono ?_
            rintro e wC ⟨ec, rfl, σ', N', F', hfs', hN', ht', hsub', hst'⟩
            have HFC := Lib.hid hfs'
            have HGD' := Lib.hid (HST.out σ' ec hst')
            have HN' : Hid (N' ≤ 100 * (i + 1)) := (by have h1 := hN' i HNM.out; have h2 := HN.out; have h3 := HI.out; show _ ≤ _; omega)
            have HS' : Hid (∀ k, FsBlk p b F' k → w.heap.size ≤ k) := fun k hk => by
              rcases hsub' k hk with h | h
              · exact HS.out k h
              · exact Nat.le_trans HBB.out.size h
            have HBC : Hid (Below w.heap.size w wC) := HBB.out.trans (ht'.below HS.out HBB.out.size)
            have HWC : Hid (FsAt wC wA.heap.size p2 b2 N σ F2) := FsAt.past HWB.out ht' (fun k hk h => by have h1 := HBKB.out k hk; have h2 := HLTF.out k h; have h3 := HWA.out.size; rw [← HWE.out] at h3; omega)
            have HNEWC : Hid (wC.heap[ob]? = some (.cells #[.int .i64 kd, .string (tx nm), .string (tx to), .slice xA xk xc, .int .i64 z, .slice xK xkn xkc] 30)) := (ht'.2.2.2.2 ob (lt_heapv HNEWB.out) (fun h => by have h2 := HLTF.out ob h; have h3 := HOB.out; omega)).trans HNEWB.out
            have HCASE := fails_step HAS.out HKIN.out.1 HKIN.out.2 hst'
            have HBD0 : Hid (Below wC.heap.size wC wC) := Below.refl _ _
            have HBOX : Hid (∀ W : World, Below wC.heap.size wC W → W.heap[ob]? = some (.cells #[.int .i64 kd, .string (tx nm), .string (tx to), .slice xA xk xc, .int .i64 z, .slice xK xkn xkc] 30)) := fun W hW => (hW.block ob (lt_heapv HNEWC.out)).trans HNEWC.out
            clear hfs' hN' ht' hsub' hst' HDO q0 q1 q2 q3 q4 q5
            have q00 := at_cell (i := 0) HNEWC.out rfl
            rcases HCASE with ⟨he, hc⟩ | ⟨hne, hd, hd', hc, has'⟩ | ⟨hcm, hfb, hd, hd', hc, has', hfl⟩ | ⟨hcm, hfb, hd, hd', hc, has', hfl⟩
            · have HAS' : Hid (AskedB false m cnt σ') := (by rw [he]; exact HAS.out)
              have HEQ : Hid (σ'.fl = σ.fl) := (by rw [he]; exact rfl)
              rcases hc with ⟨hd, rfl⟩ | ⟨hd, rfl | rfl⟩
              · have hd' : σ'.down = true := by rw [he]; exact hd
                clear he
                rw [hd]
                have HSAME : Hid (∀ W : World, Below wC.heap.size wC W → Calls Try.prog 18 #[.pointer (some ⟨p, 0, none⟩), .pointer (some ⟨p2, 0, none⟩)] W fun e w' => e = .returned (.bool true) ∧ Below W.heap.size W w') := fun W hW => by
                  have h1 := HFC.out.below hW
                  have h2 := HWC.out.below hW
                  exact samefs_any p b N' 0 p2 b2 N _ σ'.down σ.down _ _ _ _ σ'.fl F' F2 (by have := HN'.out; omega) (by have := HN.out; omega) (fun u y hu => by have := HGD'.out.each u y hu; unfold maxLen; omega) W h1.1 h1.2 h2.1 (by rw [HEQ.out]; exact h2.2)
                go_wp2_with fail
                refine (down_any p b _ _ _ wC HFC.out.1).mono ?_
                rintro e wq ⟨rfl, rfl⟩
                rw [hd']
                go_wp2_with fail
                refine (HSAME.out wC HBD0.out).mono ?_
                rintro e wx1 ⟨rfl, hb9⟩
                have HBD1 := Lib.hid (HBD0.out.trans (hb9.mono HBD0.out.size))
                have q01 := at_cell (i := 0) (HBOX.out wx1 HBD1.out) rfl
                clear hb9 q00
                go_wp2
                exact ⟨⟨i + 1, cnt, N', σ', F', HI.out, by have := HCI.out; omega, rfl, rfl, HFC.out.below HBD1.out, HGD'.out, HN'.out, HAS'.out, HS'.out, HBC.out.trans (HBD1.out.mono HBC.out.size)⟩, by show n - (i + 1) < n - i; have := HI.out; omega⟩
              · have hd' : σ'.down = false := by rw [he]; exact hd
                clear he
                rw [hd]
                have HSAME : Hid (∀ W : World, Below wC.heap.size wC W → Calls Try.prog 18 #[.pointer (some ⟨p, 0, none⟩), .pointer (some ⟨p2, 0, none⟩)] W fun e w' => e = .returned (.bool true) ∧ Below W.heap.size W w') := fun W hW => by
                  have h1 := HFC.out.below hW
                  have h2 := HWC.out.below hW
                  exact samefs_any p b N' 0 p2 b2 N _ σ'.down σ.down _ _ _ _ σ'.fl F' F2 (by have := HN'.out; omega) (by have := HN.out; omega) (fun u y hu => by have := HGD'.out.each u y hu; unfold maxLen; omega) W h1.1 h1.2 h2.1 (by rw [HEQ.out]; exact h2.2)
                go_wp2_with fail
                refine (down_any p b _ _ _ wC HFC.out.1).mono ?_
                rintro e wq ⟨rfl, rfl⟩
                rw [hd']
                go_wp2_with fail
                refine (HSAME.out wC HBD0.out).mono ?_
                rintro e wx1 ⟨rfl, hb9⟩
                have HBD1 := Lib.hid (HBD0.out.trans (hb9.mono HBD0.out.size))
                have q01 := at_cell (i := 0) (HBOX.out wx1 HBD1.out) rfl
                clear hb9 q00
                go_wp2
                exact ⟨⟨i + 1, cnt, N', σ', F', HI.out, by have := HCI.out; omega, rfl, rfl, HFC.out.below HBD1.out, HGD'.out, HN'.out, HAS'.out, HS'.out, HBC.out.trans (HBD1.out.mono HBC.out.size)⟩, by show n - (i + 1) < n - i; have := HI.out; omega⟩
              · have hd' : σ'.down = false := by rw [he]; exact hd
                clear he
                rw [hd]
                have HSAME : Hid (∀ W : World, Below wC.heap.size wC W → Calls Try.prog 18 #[.pointer (some ⟨p, 0, none⟩), .pointer (some ⟨p2, 0, none⟩)] W fun e w' => e = .returned (.bool true) ∧ Below W.heap.size W w') := fun W hW => by
                  have h1 := HFC.out.below hW
                  have h2 := HWC.out.below hW
                  exact samefs_any p b N' 0 p2 b2 N _ σ'.down σ.down _ _ _ _ σ'.fl F' F2 (by have := HN'.out; omega) (by have := HN.out; omega) (fun u y hu => by have := HGD'.out.each u y hu; unfold maxLen; omega) W h1.1 h1.2 h2.1 (by rw [HEQ.out]; exact h2.2)
                go_wp2_with fail
                refine (down_any p b _ _ _ wC HFC.out.1).mono ?_
                rintro e wq ⟨rfl, rfl⟩
                rw [hd']
                go_wp2_with fail
                refine (HSAME.out wC HBD0.out).mono ?_
                rintro e wx1 ⟨rfl, hb9⟩
                have HBD1 := Lib.hid (HBD0.out.trans (hb9.mono HBD0.out.size))
                have q01 := at_cell (i := 0) (HBOX.out wx1 HBD1.out) rfl
                clear hb9 q00
                go_wp2
                exact ⟨⟨i + 1, cnt, N', σ', F', HI.out, by have := HCI.out; omega, rfl, rfl, HFC.out.below HBD1.out, HGD'.out, HN'.out, HAS'.out, HS'.out, HBC.out.trans (HBD1.out.mono HBC.out.size)⟩, by show n - (i + 1) < n - i; have := HI.out; omega⟩
            · have HAS' := Lib.hid has'
              subst hc
              rw [hd]
              clear has'
              have hne2 : ¬ ((cnt : Int) = (m : Int)) := by omega
              have hw1 : IntKind.i64.wrap ((cnt : Int) + 1) = (cnt : Int) + 1 := wrap_small _ (by omega) (by omega)
              go_wp2_with fail
              refine (down_any p b _ _ _ wC HFC.out.1).mono ?_
              rintro e wq ⟨rfl, rfl⟩
              rw [hd']
              go_wp2
              exact ⟨⟨i + 1, cnt + 1, N', σ', F', HI.out, by have := HCI.out; omega, rfl, rfl, HFC.out.below HBD0.out, HGD'.out, HN'.out, HAS'.out, HS'.out, HBC.out.trans (HBD0.out.mono HBC.out.size)⟩, by show n - (i + 1) < n - i; have := HI.out; omega⟩
            · cases hfb
            · have HAS' := Lib.hid has'
              subst hc
              subst hcm
              rw [hd]
              clear has'
              have hw1 : IntKind.i64.wrap ((cnt : Int) + 1) = (cnt : Int) + 1 := wrap_small _ (by omega) (by omega)
              have HEQ : Hid (σ'.fl = σ.fl) := hfl
              clear hfb hfl
              by_cases hkz : kd = 0
              · have hkz : kd = 0 := hkz
                subst hkz
                have HSAME : Hid (∀ W : World, Below wC.heap.size wC W → Calls Try.prog 18 #[.pointer (some ⟨p, 0, none⟩), .pointer (some ⟨p2, 0, none⟩)] W fun e w' => e = .returned (.bool true) ∧ Below W.heap.size W w') := fun W hW => by
                  have h1 := HFC.out.below hW
                  have h2 := HWC.out.below hW
                  exact samefs_any p b N' 0 p2 b2 N _ σ'.down σ.down _ _ _ _ σ'.fl F' F2 (by have := HN'.out; omega) (by have := HN.out; omega) (fun u y hu => by have := HGD'.out.each u y hu; unfold maxLen; omega) W h1.1 h1.2 h2.1 (by rw [HEQ.out]; exact h2.2)
                go_wp2_with fail
                refine (down_any p b _ _ _ wC HFC.out.1).mono ?_
                rintro e wq ⟨rfl, rfl⟩
                rw [hd']
                go_wp2_with fail
                refine (HSAME.out wC HBD0.out).mono ?_
                rintro e wx1 ⟨rfl, hb9⟩
                have HBD1 := Lib.hid (HBD0.out.trans (hb9.mono HBD0.out.size))
                have q01 := at_cell (i := 0) (HBOX.out wx1 HBD1.out) rfl
                clear hb9 q00
                go_wp2
                exact ⟨⟨i + 1, cnt + 1, N', σ', F', HI.out, by have := HCI.out; omega, rfl, rfl, HFC.out.below HBD1.out, HGD'.out, HN'.out, HAS'.out, HS'.out, HBC.out.trans (HBD1.out.mono HBC.out.size)⟩, by show n - (i + 1) < n - i; have := HI.out; omega⟩
              · have HSAME : Hid (∀ W : World, Below wC.heap.size wC W → Calls Try.prog 18 #[.pointer (some ⟨p, 0, none⟩), .pointer (some ⟨p2, 0, none⟩)] W fun e w' => e = .returned (.bool true) ∧ Below W.heap.size W w') := fun W hW => by
                  have h1 := HFC.out.below hW
                  have h2 := HWC.out.below hW
                  exact samefs_any p b N' 0 p2 b2 N _ σ'.down σ.down _ _ _ _ σ'.fl F' F2 (by have := HN'.out; omega) (by have := HN.out; omega) (fun u y hu => by have := HGD'.out.each u y hu; unfold maxLen; omega) W h1.1 h1.2 h2.1 (by rw [HEQ.out]; exact h2.2)
                go_wp2_with fail
                refine (down_any p b _ _ _ wC HFC.out.1).mono ?_
                rintro e wq ⟨rfl, rfl⟩
                rw [hd']
                go_wp2_with fail
                refine (HSAME.out wC HBD0.out).mono ?_
                rintro e wx1 ⟨rfl, hb9⟩
                have HBD1 := Lib.hid (HBD0.out.trans (hb9.mono HBD0.out.size))
                have q01 := at_cell (i := 0) (HBOX.out wx1 HBD1.out) rfl
                clear hb9 q00
                go_wp2_with fail
                refine (HSAME.out wx1 HBD1.out).mono ?_
                rintro e wx2 ⟨rfl, hb9⟩
                have HBD2 := Lib.hid (HBD1.out.trans (hb9.mono HBD1.out.size))
                have q02 := at_cell (i := 0) (HBOX.out wx2 HBD2.out) rfl
                clear hb9 q01
                go_wp2
                exact ⟨⟨i + 1, cnt + 1, N', σ', F', HI.out, by have := HCI.out; omega, rfl, rfl, HFC.out.below HBD2.out, HGD'.out, HN'.out, HAS'.out, HS'.out, HBC.out.trans (HBD2.out.mono HBC.out.size)⟩, by show n - (i + 1) < n - i; have := HI.out; omega⟩
          · have HNO : Hid (kd < 0 ∨ kd > 4) := (by show _ ∨ _; omega)
            have HGM := Lib.hid hgd.more
            clear hx hmx hin hsm hal hwa hdo hHN hnew hfs hgd hs hb hN has hci hlt
            have HFA : Hid (FsAt (wr.alloc (.cells #[.int .i64 kd, .string (tx nm), .string (tx to), .slice xA xk xc, .int .i64 z, .slice xK xkn xkc] 30)) 0 p b N σ F) := HFS.out.below HWA.out
            rcases HNO.out with hk | hk
            · go_wp2
              exact ⟨⟨i + 1, cnt, N, σ, F, HI.out, by have := HCI.out; omega, rfl, rfl, HFA.out, HGM.out, by have := HN.out; omega, HAS.out, HS.out, HAL.out⟩, by show n - (i + 1) < n - i; have := HI.out; omega⟩
            · have hk2 : ¬ kd < 0 := by omega
              go_wp2
              exact ⟨⟨i + 1, cnt, N, σ, F, HI.out, by have := HCI.out; omega, rfl, rfl, HFA.out, HGM.out, by have := HN.out; omega, HAS.out, HS.out, HAL.out⟩, by show n - (i + 1) < n - i; have := HI.out; omega⟩
        · obtain rfl : i = n := by omega
          clear hfs hgd hs hb hN has hci hlt
          go_wp2_with fail
          refine (vfixed_any _).mono ?_
          rintro e w11 ⟨rfl, hb11⟩
          have HB11 := Lib.hid (HB.out.trans (hb11.mono HB.out.size))
          clear hb11
          go_wp2
          go_ret
          exact ⟨rfl, HB11.out⟩

end Go.Proofs.Ytfgonihpakcbbaa
