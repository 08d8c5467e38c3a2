/- RuleCleans. -/
import Derived.Test.YtacjiojfjkonkaaWrc
import Derived.Test.YtacjiojfjkonkaaWra
import Derived.Test.YtacjiojfjkonkaaWr2
import Derived.Test.YtacjiojfjkonkaaXm
namespace Go.Proofs.Ytacjiojfjkonkaa
open Go.RowKit Go.Sort

set_option maxRecDepth 100000 in
set_option maxHeartbeats 4000000 in
theorem rcleans_any (A : Option Addr) (n c : Nat) (xs : List Nw) (hnc : n ≤ c) (hcm : c ≤ maxLen) (G : Option Addr) (gn gc : Nat) (gs : List Stp) (hgm : gn ≤ maxLen) (w : World) (hg : ∀ x ∈ xs, NGood w x ∧ RuleOk x.d) (h : Nodes w w.heap.size A n xs) (hgl : ∀ x ∈ gs, x.name.length ≤ maxLen) (hs : Steps w w.heap.size G gn gs) :
    Calls Try.prog 3 #[.slice A n c, .slice G gn gc] w fun e w' => e = .returned (.bool true) ∧ Below w.heap.size w w' := by
  have HLD : Hid ((nds xs).length = n) := by show _ = _; rw [nds_len]; exact h.len
  have HG := Lib.hid (ggreat_any A n c xs (by omega) (fun x hx => ⟨(hg x hx).1.1, by have := (hg x hx).1.2.1; have := (hg x hx).1.2.2.1; omega⟩) w h)
  have HFW := Lib.hid (fun (W : World) (hb : Below w.heap.size w W) => few_any G gn gc gs hgm hgl W ((hs.below hb).more hb.size))
  by_cases gsm : GSm (nds xs)
  · have GS := Lib.hid gsm
    by_cases fw : FewS gs
    · have FWH := Lib.hid fw
      have hn80 : n ≤ 80 := by rw [← HLD.out]; exact gsm.2
      have hgn : gn ≤ 100 := by rw [← hs.len]; exact fw.2
      have hd30 : ∀ x ∈ xs, x.n ≤ 30 := fun x hx => by
        have h1 := (gsm.1 x.d (List.mem_map.2 ⟨x, hx, rfl⟩)).1
        rw [(h.2 x hx).len] at h1
        exact h1
      have hok : NOk xs := fun x hx => ⟨(hg x hx).1.1, by have := hd30 x hx; omega⟩
      have hru : ∀ x ∈ xs, RuleOk x.d ∧ x.n ≤ 1000 := fun x hx => ⟨(hg x hx).2, by have := hd30 x hx; omega⟩
      have hxc : ∀ x ∈ xs, x.n ≤ x.c := fun x hx => (hg x hx).1.2.1
      have HSAME : Hid (∀ (L : List Stp) (m : Nat) (A5 : Option Addr) (c5 : Nat) (A7 : Option Addr) (c7 : Nat) (W : World), m ≤ 100 → Steps W W.heap.size A5 m L → Steps W W.heap.size A7 m L → Calls Try.prog 11 #[.slice A5 m c5, .slice A7 m c7] W fun e w' => e = .returned (.bool true) ∧ Below W.heap.size W w') := fun L m A5 c5 A7 c7 W hm h1 h2 => ssame_ok A5 m c5 A7 c7 L (by omega) W h1 h2
      by_cases hc0 : chk (nds xs) = 0
      · have HC := Lib.hid (fun (W : World) (hb : Below w.heap.size w W) => clean_ok A n c xs (by omega) hok hru hc0 G gn gc gs (by omega) W ((h.below hb).more hb.size) ((hs.below hb).more hb.size))
        have HRC := Lib.hid (fun (W : World) (hb : Below w.heap.size w W) => rclean_ok A n c xs (by omega) hnc hok hxc hru hc0 G gn gc gs (by omega) W ((h.below hb).more hb.size) ((hs.below hb).more hb.size))
        obtain ⟨L, hL⟩ : ∃ L, L = clN (nds xs) gs (ord (nds xs)) n := ⟨_, rfl⟩
        rw [← hL] at HC HRC
        clear hok hru hxc hc0 hg h hgl hs gsm fw hd30 hL
        go_enter Try.func3, Try.ntmps3
        go_wp2_with (first
          | (go_at_call 11; refine (HSAME.out L n A4 c4 A5 c5 w6 (by omega) ((HR4.out.below HB46.out).more HB46.out.size) ((HR5.out.below HB56.out).more HB56.out.size)).mono ?_; rintro e w7 ⟨rfl, hb7⟩; have HB7 := Lib.hid (HB6.out.trans (hb7.mono HB6.out.size)); clear hb7)
          | (go_at_call 10; refine (HRC.out _ HB4.out).mono ?_; rintro e w5 ⟨⟨A5, c5, rfl, ho5⟩, hb5⟩; have HR5 : Hid (Steps w5 w5.heap.size A5 n L) := Reads.of_own ho5; have HB5 := Lib.hid (HB4.out.trans (hb5.mono HB4.out.size)); have HB45 := Lib.hid hb5; clear hb5 ho5)
          | (go_at_call 9; refine (HC.out _ HB3.out).mono ?_; rintro e w4 ⟨⟨A4, c4, rfl, ho4⟩, hb4⟩; have HR4 : Hid (Steps w4 w4.heap.size A4 n L) := Reads.of_own ho4; have HB4 := Lib.hid (HB3.out.trans (hb4.mono HB3.out.size)); clear hb4 ho4)
          | (go_at_call 8; refine (qfixed_any _).mono ?_; rintro e w6 ⟨rfl, hb6⟩; have HB6 := Lib.hid (HB5.out.trans (hb6.mono HB5.out.size)); have HB56 := Lib.hid hb6; have HB46 := Lib.hid (HB45.out.trans (hb6.mono HB45.out.size)); clear hb6)
          | (go_at_call 7; refine (HFW.out _ HB2.out).mono ?_; rintro e w3 ⟨he3, hb3⟩; obtain rfl := he3.yes FWH.out; have HB3 := Lib.hid (HB2.out.trans (hb3.mono HB2.out.size)); clear hb3)
          | (go_at_call 6; refine HG.out.mono ?_; rintro e w2 ⟨he, hb2⟩; obtain rfl := he.no (fun h => h GS.out); have HB2 := Lib.hid hb2; clear hb2))
        go_ret
        exact ⟨rfl, HB7.out⟩
      · have HC := Lib.hid (fun (W : World) (hb : Below w.heap.size w W) => clean_bad A n c xs (by omega) hok hc0 (.slice G gn gc) W ((h.below hb).more hb.size))
        have HRC := Lib.hid (fun (W : World) (hb : Below w.heap.size w W) => rclean_bad A n c xs (by omega) hnc hok hxc hc0 (.slice G gn gc) W ((h.below hb).more hb.size))
        obtain ⟨z, hz⟩ : ∃ z, z = chk (nds xs) := ⟨_, rfl⟩
        rw [← hz] at HC HRC
        clear hok hru hxc hc0 hg h hgl hs gsm fw hd30 hz
        go_enter Try.func3, Try.ntmps3
        go_wp2_with (first
          | (go_at_call 11; refine (HSAME.out [] 0 none 0 A5 0 w6 (by omega) Reads.none_ Reads.none_).mono ?_; rintro e w7 ⟨rfl, hb7⟩; have HB7 := Lib.hid (HB6.out.trans (hb7.mono HB6.out.size)); clear hb7)
          | (go_at_call 10; refine (HRC.out _ HB4.out).mono ?_; rintro e w5 ⟨⟨z5, A5, rfl, rfl⟩, hb5⟩; have HB5 := Lib.hid (HB4.out.trans (hb5.mono HB4.out.size)); clear hb5)
          | (go_at_call 9; refine (HC.out _ HB3.out).mono ?_; rintro e w4 ⟨⟨z4, rfl, rfl⟩, hb4⟩; have HB4 := Lib.hid (HB3.out.trans (hb4.mono HB3.out.size)); clear hb4)
          | (go_at_call 8; refine (qfixed_any _).mono ?_; rintro e w6 ⟨rfl, hb6⟩; have HB6 := Lib.hid (HB5.out.trans (hb6.mono HB5.out.size));  clear hb6)
          | (go_at_call 7; refine (HFW.out _ HB2.out).mono ?_; rintro e w3 ⟨he3, hb3⟩; obtain rfl := he3.yes FWH.out; have HB3 := Lib.hid (HB2.out.trans (hb3.mono HB2.out.size)); clear hb3)
          | (go_at_call 6; refine HG.out.mono ?_; rintro e w2 ⟨he, hb2⟩; obtain rfl := he.no (fun h => h GS.out); have HB2 := Lib.hid hb2; clear hb2))
        go_ret
        exact ⟨rfl, HB7.out⟩
    · have FWH := Lib.hid fw
      clear hg h hgl hs gsm fw
      go_enter Try.func3, Try.ntmps3
      go_wp2_with (first
        | (go_at_call 8; refine (qfixed_any _).mono ?_; rintro e w4 ⟨rfl, hb4⟩; have HB4 := Lib.hid (HB3.out.trans (hb4.mono HB3.out.size));  clear hb4)
        | (go_at_call 7; refine (HFW.out _ HB2.out).mono ?_; rintro e w3 ⟨he3, hb3⟩; obtain rfl := he3.no FWH.out; have HB3 := Lib.hid (HB2.out.trans (hb3.mono HB2.out.size)); clear hb3)
        | (go_at_call 6; refine HG.out.mono ?_; rintro e w2 ⟨he, hb2⟩; obtain rfl := he.no (fun h => h GS.out); have HB2 := Lib.hid hb2; clear hb2))
      go_ret
      exact ⟨rfl, HB4.out⟩
  · have GS := Lib.hid gsm
    clear hg h hgl hs gsm
    go_enter Try.func3, Try.ntmps3
    go_wp2_with (first
      | (go_at_call 8; refine (qfixed_any _).mono ?_; rintro e w3 ⟨rfl, hb3⟩; have HB3 := Lib.hid (HB2.out.trans (hb3.mono HB2.out.size));  clear hb3)
      | (go_at_call 6; refine HG.out.mono ?_; rintro e w2 ⟨he, hb2⟩; obtain rfl := he.yes GS.out; have HB2 := Lib.hid hb2; clear hb2))
    go_ret
    exact ⟨rfl, HB3.out⟩

end Go.Proofs.Ytacjiojfjkonkaa
