/- MigrateAll. -/
import Derived.Test.YteombeomfjkikaaTb
import Derived.Test.YteombeomfjkikaaTc
import Derived.Test.YteombeomfjkikaaTd
namespace Go.Proofs.Yteombeomfjkikaa
open Go.RowKit

set_option maxRecDepth 100000 in
set_option maxHeartbeats 1000000 in
theorem mall_any (v v2 : Int) (A : Option Addr) (n c : Nat) (xs : List Rw) (hn : n ≤ maxLen) (hf : ∀ x ∈ xs, Fits x.r x.l ∧ x.n ≤ maxLen) (w : World) (h : Recs w w.heap.size A n xs) :
    Calls Try.prog 4 #[.int .i64 v, .int .i64 v2, .slice A n c] w fun e w' => e = .returned (.bool true) ∧ Below w.heap.size w w' := by
  have HFX : Hid (∀ W, Calls Try.prog 8 #[] W fun e w' => e = .returned (.bool true) ∧ Below W.heap.size W w') := mfixed_any
  have HG := Lib.hid (greats_any A n c xs hn hf w h)
  have HL : xs.length = n := h.len
  have rd : ∀ W, Below w.heap.size w W → Recs W W.heap.size A n xs := fun W hb => (h.below hb).more hb.size
  by_cases sm : smalls xs
  · have SM := Lib.hid sm
    have h30 : n ≤ 30 := by rw [← HL]; exact sm.2
    have hf2 : ∀ x ∈ xs, Fits x.r x.l ∧ x.n ≤ 60 := fun x hx => ⟨(hf x hx).1, by have h1 := (h.2 x hx).1.1; rw [dps_len] at h1; have h2 := (sm.1 x hx).2.1; omega⟩
    have HA : Hid (∀ W, Below w.heap.size w W → Calls Try.prog 15 #[.int .i64 v, .int .i64 v2, .slice A n c] W fun e w' => AllPost v v2 xs W e w') := fun W hb => by
      by_cases hw : isWayB v v2 = true
      · exact all_ok v v2 A n c xs hw h30 hf2 W (rd W hb)
      · exact all_way v v2 A n c xs (by simpa using hw) W
    have HR : Hid (∀ W, Below w.heap.size w W → Calls Try.prog 16 #[.int .i64 v, .int .i64 v2, .slice A n c] W fun e w' => AllPost v v2 xs W e w') := fun W hb => by
      by_cases hw : isWayB v v2 = true
      · exact rall_ok v v2 A n c xs hw h30 hf2 W (rd W hb)
      · exact rall_way v v2 A n c xs (by simpa using hw) W
    clear h hf hf2 rd sm HL h30 hn
    go_enter Try.func4, Try.ntmps4
    go_wp2_with (first
      | (go_at_call 17; have hk := HB5.out.size; refine (rall_any A3 A4 n3 n4 c3 c4 zs ys (by have := HN3.out; unfold maxLen; omega) (by have := HN4.out; unfold maxLen; omega) (fun z hz => by have := HZ3.out z hz; omega) _ HR35.out HR45.out).mono ?_; rintro e w6 ⟨he, hb6⟩; obtain rfl := he.yes HSAY.out; have HB6 := Lib.hid (HB5.out.trans (hb6.mono HB5.out.size)); clear hb6)
      | (go_at_call 8; have hk := HB4.out.size; refine (HFX.out _).mono ?_; rintro e w5 ⟨rfl, hb5⟩; have HB5 := Lib.hid (HB4.out.trans (hb5.mono HB4.out.size)); have HR35 := Lib.hid ((HR34.out.below hb5).more hb5.size); have HR45 := Lib.hid ((HR4.out.below hb5).more hb5.size); clear hb5)
      | (go_at_call 16; have hk := HB3.out.size; refine (HR.out _ HB3.out).mono ?_; rintro e w4 ⟨R4, E4, A4, n4, c4, ys, hans4, rfl, hn4, hy4, hs4, hr4, hb4⟩; obtain ⟨rfl, rfl⟩ := ansAll_one HANS.out hans4; have HSAY : Hid (zs.map Rw.say = ys.map Rw.say) := HY3.out.trans hy4.symm; have HB4 := Lib.hid (HB3.out.trans (hb4.mono HB3.out.size)); have HR34 := Lib.hid ((HR3.out.below hb4).more hb4.size); have HR4 := Lib.hid hr4; have HN4 := Lib.hid hn4; clear hans4 hb4 hr4 hn4 hs4 hy4)
      | (go_at_call 15; have hk := HB2.out.size; refine (HA.out _ HB2.out).mono ?_; rintro e w3 ⟨R3, E3, A3, n3, c3, zs, hans3, rfl, hn3, hz3, hs3, hr3, hb3⟩; have HANS := Lib.hid hans3; have HY3 := Lib.hid hz3; have HZ3 := Lib.hid hs3; have HB3 := Lib.hid (HB2.out.trans (hb3.mono HB2.out.size)); have HR3 := Lib.hid hr3; have HN3 := Lib.hid hn3; clear hans3 hb3 hr3 hn3 hs3 hz3)
      | (go_at_call 14; refine HG.out.mono ?_; rintro e w2 ⟨he, hb2⟩; obtain rfl := he.no (fun h => h SM.out); have HB2 := Lib.hid hb2; clear hb2))
    go_ret
    exact ⟨rfl, HB6.out⟩
  · have SM := Lib.hid sm
    clear h hf rd sm HL hn
    go_enter Try.func4, Try.ntmps4
    go_wp2_with (first
      | (go_at_call 8; have hk := HB2.out.size; refine (HFX.out _).mono ?_; rintro e w3 ⟨rfl, hb3⟩; have HB3 := Lib.hid (HB2.out.trans (hb3.mono HB2.out.size)); clear hb3)
      | (go_at_call 14; refine HG.out.mono ?_; rintro e w2 ⟨he, hb2⟩; obtain rfl := he.yes SM.out; have HB2 := Lib.hid hb2; clear hb2))
    go_ret
    exact ⟨rfl, HB3.out⟩

end Go.Proofs.Yteombeomfjkikaa
