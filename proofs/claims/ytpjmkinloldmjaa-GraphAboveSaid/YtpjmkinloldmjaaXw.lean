/- GraphAbove. -/
import Derived.Test.YtpjmkinloldmjaaXv
import Derived.Test.YtpjmkinloldmjaaXn
import Derived.Test.YtpjmkinloldmjaaXm
import Derived.Test.YtpjmkinloldmjaaRx
namespace Go.Proofs.Ytpjmkinloldmjaa
open Go.RowKit Go.Sort

set_option maxRecDepth 100000 in
set_option maxHeartbeats 4000000 in
theorem gabove_any (A : Option Addr) (n c : Nat) (xs : List Nw) (s : List UInt8) (hsm : s.length ≤ maxLen) (hnc : n ≤ c) (hcm : c ≤ maxLen) (w : World) (hg : ∀ x ∈ xs, NGood w x) (h : Nodes w w.heap.size A n xs) :
    Calls Try.prog 4 #[.slice A n c, .string (tx s)] w fun e w' => e = .returned (.bool true) ∧ Below w.heap.size w w' := by
  have HLD : Hid ((nds xs).length = n) := by show _ = _; rw [nds_len]; exact h.len
  have HG := Lib.hid (ggreat_any A n c xs (by omega) (fun x hx => ⟨(hg x hx).1, by have := (hg x hx).2.1; have := (hg x hx).2.2.1; omega⟩) w h)
  obtain ⟨q, hq⟩ : ∃ q, q = s.length := ⟨_, rfl⟩
  have hs0 := tx_size0 s
  rw [← hq] at hs0
  have hs63 : (q : Int) ≤ 9223372036854775807 := by unfold maxLen at hsm; omega
  by_cases gs : GSm (nds xs)
  · have GS := Lib.hid gs
    by_cases hq1 : q ≤ 100
    · have dq : decide ((q : Int) > 100) = false := decide_eq_false (by omega)
      have hn80 : n ≤ 80 := by rw [← HLD.out]; exact gs.2
      have hok : ∀ x ∈ xs, NFits x.d ∧ x.n ≤ 1000 := fun x hx => ⟨(hg x hx).1, by
        have h1 := (gs.1 x.d (List.mem_map.2 ⟨x, hx, rfl⟩)).1
        rw [(h.2 x hx).len] at h1
        omega⟩
      have HA := Lib.hid (fun (W : World) (hb : Below w.heap.size w W) => above_any A n c xs s hsm (by omega) hok W ((h.below hb).more hb.size))
      have HR := Lib.hid (fun (W : World) (hb : Below w.heap.size w W) => rabove_any A n c xs s (by omega) hok W ((h.below hb).more hb.size))
      have HLE : Hid (∀ o, IsAbv (nds xs) s o → o.length ≤ 80) := fun o ho => by have := isAbv_len ho; rw [HLD.out] at this; omega
      have HONE : Hid (∀ a b, IsAbv (nds xs) s a → IsAbv (nds xs) s b → a = b) := fun a b h1 h2 => isAbv_one h1 h2
      clear hok hg h gs hq hsm
      go_enter Try.func4, Try.ntmps4
      go_wp2_with (first
        | (go_at_call 14; refine (texts_same A4 A5 o4.length c4 c5 w4.heap.size w5.heap.size o4 (by have := HLE.out o4 HI4.out; omega) w5 HB45.out.size (Nat.le_refl _) HR45.out HR5.out).mono ?_; rintro e w6 ⟨rfl, hb6⟩; have HB6 := Lib.hid (HB5.out.trans (hb6.mono HB5.out.size)); clear hb6)
        | (go_at_call 16; refine (HR.out _ HB4.out).mono ?_; rintro e w5 ⟨⟨o5, A5, c5, hi5, rfl, _, ho5⟩, hb5⟩; obtain rfl := HONE.out _ _ HI4.out hi5; have HR5 := Lib.hid (Reads.of_own ho5); have HR45 := Lib.hid (HR4.out.below hb5); have HB45 := Lib.hid hb5; have HB5 := Lib.hid (HB4.out.trans (hb5.mono HB4.out.size)); clear hi5 ho5 hb5)
        | (go_at_call 15; refine (HA.out _ HB3.out).mono ?_; rintro e w4 ⟨⟨o4, A4, c4, hi4, rfl, _, ho4⟩, hb4⟩; have HI4 := Lib.hid hi4; have HR4 := Lib.hid (Reads.of_own ho4); have HB4 := Lib.hid (HB3.out.trans (hb4.mono HB3.out.size)); clear hi4 ho4 hb4)
        | (go_at_call 8; refine (gfixed_any _).mono ?_; rintro e w3 ⟨rfl, hb3⟩; have HB3 := Lib.hid (HB2.out.trans (hb3.mono HB2.out.size)); clear hb3)
        | (go_at_call 7; refine HG.out.mono ?_; rintro e w2 ⟨he, hb2⟩; obtain rfl := he.no (fun h => h GS.out); have HB2 := Lib.hid hb2; clear hb2))
      go_ret
      exact ⟨rfl, HB6.out⟩
    · have dq : decide ((q : Int) > 100) = true := decide_eq_true (by omega)
      clear hg h gs hq
      go_enter Try.func4, Try.ntmps4
      go_wp2_with (first
        | (go_at_call 8; refine (gfixed_any _).mono ?_; rintro e w3 ⟨rfl, hb3⟩; have HB3 := Lib.hid (HB2.out.trans (hb3.mono HB2.out.size)); clear hb3)
        | (go_at_call 7; refine HG.out.mono ?_; rintro e w2 ⟨he, hb2⟩; obtain rfl := he.no (fun h => h GS.out); have HB2 := Lib.hid hb2; clear hb2))
      go_ret
      exact ⟨rfl, HB3.out⟩
  · have GS := Lib.hid gs
    clear hg h gs hq
    go_enter Try.func4, Try.ntmps4
    go_wp2_with (first
      | (go_at_call 8; refine (gfixed_any _).mono ?_; rintro e w3 ⟨rfl, hb3⟩; have HB3 := Lib.hid (HB2.out.trans (hb3.mono HB2.out.size)); clear hb3)
      | (go_at_call 7; refine HG.out.mono ?_; rintro e w2 ⟨he, hb2⟩; obtain rfl := he.yes GS.out; have HB2 := Lib.hid hb2; clear hb2))
    go_ret
    exact ⟨rfl, HB3.out⟩

end Go.Proofs.Ytpjmkinloldmjaa
