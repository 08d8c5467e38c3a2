/- The example of layer 21; GraphChecks. -/
import Derived.Test.YtpjmkinloldmjaaXm
import Derived.Test.YtpjmkinloldmjaaXm0
import Derived.Test.YtpjmkinloldmjaaXi1
import Derived.Test.YtpjmkinloldmjaaXd
namespace Go.Proofs.Ytpjmkinloldmjaa
open Go.RowKit Go.Sort

def exn (b : Nat) : List Nw := [⟨⟨[98], false, 0, [[97]]⟩, some ⟨b, 0, none⟩, 1, 1⟩, ⟨⟨[97], true, 0, []⟩, none, 0, 0⟩]
theorem ex_chk (b : Nat) : chk (nds (exn b)) = 0 := by
  show chk [⟨[98], false, 0, [[97]]⟩, ⟨[97], true, 0, []⟩] = 0
  decide
theorem ex_ord (b : Nat) : ord (nds (exn b)) = [1, 0] := by
  show ord [⟨[98], false, 0, [[97]]⟩, ⟨[97], true, 0, []⟩] = [1, 0]
  decide
theorem ex_ok (b : Nat) : NOk (exn b) := fun x hx => by
  simp only [exn, List.mem_cons, List.not_mem_nil, or_false] at hx
  unfold NFits maxLen
  rcases hx with rfl | rfl <;> simp
theorem add_zero_at (b j : Nat) : (⟨b, 0, none⟩ : Addr).add j = ⟨b, j, none⟩ := by
  unfold Addr.add
  split
  · rename_i h; rw [h]
  · simp
theorem ex_nodes (w : World) : Nodes ((w.alloc (.cells #[.string { data := #[97] }] 9)).alloc (.cells #[.string { data := #[98] }, .bool false, .int .u64 0, .slice (some ⟨w.heap.size, 0, none⟩) 1 1, .string { data := #[97] }, .bool true, .int .u64 0, .slice none 0 0] 40)) ((w.alloc (.cells #[.string { data := #[97] }] 9)).alloc (.cells #[.string { data := #[98] }, .bool false, .int .u64 0, .slice (some ⟨w.heap.size, 0, none⟩) 1 1, .string { data := #[97] }, .bool true, .int .u64 0, .slice none 0 0] 40)).heap.size (some ⟨w.heap.size + 1, 0, none⟩) 2 (exn w.heap.size) := by
  obtain ⟨h1, h2, h3⟩ := two_new w (.cells #[.string { data := #[97] }] 9) (.cells #[.string { data := #[98] }, .bool false, .int .u64 0, .slice (some ⟨w.heap.size, 0, none⟩) 1 1, .string { data := #[97] }, .bool true, .int .u64 0, .slice none 0 0] 40)
  refine ⟨⟨rfl, fun _ => ⟨_, rfl, by rw [h3]; show w.heap.size + 1 < _; omega, fun j u hu => ?_⟩⟩, fun x hx => ?_⟩
  · rw [add_zero_at]
    exact at_cell h2 ((List.getElem?_toArray ..).trans hu)
  · simp only [exn, List.mem_cons, List.not_mem_nil, or_false] at hx
    rcases hx with rfl | rfl
    · exact ((reads_one_row w 9 (.string { data := #[97] })).alloc (by simp) (.cells #[.string { data := #[98] }, .bool false, .int .u64 0, .slice (some ⟨w.heap.size, 0, none⟩) 1 1, .string { data := #[97] }, .bool true, .int .u64 0, .slice none 0 0] 40)).more (by rw [h3]; omega)
    · exact Reads.none_

set_option maxRecDepth 100000 in
set_option maxHeartbeats 2000000 in
theorem gfixed_any (w : World) : Calls Try.prog 8 #[] w fun e w' => e = .returned (.bool true) ∧ Below w.heap.size w w' := by
  have HB2 := Lib.hid (((Below.refl w.heap.size w).alloc (Nat.le_refl _) (.cells #[.string { data := #[97] }] 9)).alloc (by simp) (.cells #[.string { data := #[98] }, .bool false, .int .u64 0, .slice (some ⟨w.heap.size, 0, none⟩) 1 1, .string { data := #[97] }, .bool true, .int .u64 0, .slice none 0 0] 40))
  have HOR : Hid (Calls Try.prog 9 #[.slice (some ⟨w.heap.size + 1, 0, none⟩) 2 2] ((w.alloc (.cells #[.string { data := #[97] }] 9)).alloc (.cells #[.string { data := #[98] }, .bool false, .int .u64 0, .slice (some ⟨w.heap.size, 0, none⟩) 1 1, .string { data := #[97] }, .bool true, .int .u64 0, .slice none 0 0] 40)) fun e w' => ∃ A5 c5, e = .returned (.tuple #[.slice A5 2 c5, .int .i64 0]) ∧ Reads w' w'.heap.size 1 A5 2 (ivs [1, 0]) ∧ Below w.heap.size w w') :=
    Calls.mono (order_any _ 2 2 (exn w.heap.size) (by omega) (ex_ok _) _ (ex_nodes w)) (fun e w' ⟨⟨v, he, hv⟩, hb⟩ => by
      rw [ex_chk] at he
      rcases hv with ⟨h0, _⟩ | ⟨_, A, c, h1, h2⟩
      · exact absurd (ex_chk _) h0
      · rw [ex_ord] at h1 h2
        subst h1
        exact ⟨A, c, he, Reads.of_own h2, HB2.out.trans (hb.mono HB2.out.size)⟩)
  go_enter Try.func8, Try.ntmps8
  go_wp2_with fail
  refine HOR.out.mono ?_
  rintro e w5 ⟨A5, c5, rfl, hr5, hb5⟩
  have HB5 := Lib.hid hb5
  have hal : Below w5.heap.size w5 (w5.alloc (.cells #[.int .i64 1, .int .i64 0] 3)) := (Below.refl _ w5).alloc (Nat.le_refl _) _
  have HB6 := Lib.hid (hb5.trans (hal.mono hb5.size))
  have HSA := Lib.hid (rsame_ok A5 2 c5 (some ⟨w5.heap.size, 0, none⟩) 2 [1, 0] (by omega) (w5.alloc (.cells #[.int .i64 1, .int .i64 0] 3)) ((hr5.below hal).more hal.size) ⟨rfl, fun _ => ⟨_, rfl, by simp, fun j u hu => by rw [add_zero_at]; exact at_cell (one_new w5 _) ((List.getElem?_toArray ..).trans hu)⟩⟩)
  clear hb5 hal hr5
  go_wp2_with (go_at_call 12; refine HSA.out.mono ?_; rintro e w7 ⟨rfl, hb7⟩; have HB7 := Lib.hid (HB6.out.trans (hb7.mono HB6.out.size)); clear hb7)
  go_ret
  exact ⟨rfl, HB7.out⟩

set_option maxRecDepth 100000 in
set_option maxHeartbeats 4000000 in
theorem gchecks_any (A : Option Addr) (n c : Nat) (xs : List Nw) (hnc : n ≤ c) (hcm : c ≤ maxLen) (w : World) (hg : ∀ x ∈ xs, NGood w x) (h : Nodes w w.heap.size A n xs) :
    Calls Try.prog 3 #[.slice A n c] w fun e w' => e = .returned (.bool true) ∧ Below w.heap.size w w' := by
  have HLD : Hid ((nds xs).length = n) := by show _ = _; rw [nds_len]; exact h.len
  have HG := Lib.hid (ggreat_any A n c xs (by omega) (fun x hx => ⟨(hg x hx).1, by have := (hg x hx).2.1; have := (hg x hx).2.2.1; omega⟩) w h)
  by_cases gs : GSm (nds xs)
  · have GS := Lib.hid gs
    have hn80 : n ≤ 80 := by rw [← HLD.out]; exact gs.2
    have hn : n ≤ 1000000 := by omega
    have hok : NOk xs := fun x hx => ⟨(hg x hx).1, by
      have h1 := (gs.1 x.d (List.mem_map.2 ⟨x, hx, rfl⟩)).1
      rw [(h.2 x hx).len] at h1
      omega⟩
    have HRC := Lib.hid (fun (W : World) (hb : Below w.heap.size w W) => rcheck_any A n c xs hn hnc hok (fun x hx => (hg x hx).2.1) W ((h.below hb).more hb.size))
    have HCH := Lib.hid (fun (W : World) (hb : Below w.heap.size w W) => check_any A n c xs hn hok W ((h.below hb).more hb.size))
    by_cases hc0 : chk (nds xs) = 0
    · obtain ⟨_, hnd, _, hdi, _⟩ := chk_ok.1 hc0
      have HRW := Lib.hid (fun (W : World) (hb : Below w.heap.size w W) => rrow_any A n c xs hn hok hnd hdi W ((h.below hb).more hb.size))
      have HOR : Hid (∀ (W : World) (hb : Below w.heap.size w W), Calls Try.prog 9 #[.slice A n c] W fun e w' => (∃ A5 c5, e = .returned (.tuple #[.slice A5 (ord (nds xs)).length c5, .int .i64 0]) ∧ w'.ownsRow W.heap.size 3 1 (.slice A5 (ord (nds xs)).length c5) (ord (nds xs)).length (ivs (ord (nds xs)))) ∧ Below W.heap.size W w') := fun W hb =>
        Calls.mono (order_any A n c xs hn hok W ((h.below hb).more hb.size)) (fun e w' ⟨⟨v, he, hv⟩, hb2⟩ => by
          rw [hc0] at he
          rcases hv with ⟨h0, _⟩ | ⟨_, A5, c5, h1, h2⟩
          · exact absurd hc0 h0
          · subst h1
            exact ⟨⟨A5, c5, he, h2⟩, hb2⟩)
      rw [hc0] at HRC HCH
      have HOL : Hid ((ord (nds xs)).length ≤ 80) := by
        show _ ≤ _
        have := ord_len (nds xs) (nds xs).length
        rw [HLD.out] at this
        unfold ord
        rw [HLD.out]
        omega
      obtain ⟨o, ho⟩ : ∃ o, o = ord (nds xs) := ⟨_, rfl⟩
      rw [← ho] at HOL HOR HRW
      obtain ⟨m, hm⟩ : ∃ m, m = o.length := ⟨_, rfl⟩
      rw [← hm] at HOL HOR HRW
      have hm80 : m ≤ 80 := HOL.out
      clear hok hg h gs hnd hdi hc0 ho hm
      go_enter Try.func3, Try.ntmps3
      go_wp2_with (first
        | (go_at_call 12; refine (rsame_ok A5 m c5 A7 c7 o (by omega) w7 ((Reads.of_own (own_below HO3.out HB37.out)).more (Nat.le_refl _)) (Reads.of_own HO7.out)).mono ?_; rintro e w8 ⟨rfl, hb8⟩; have HB8 := Lib.hid (HB7.out.trans (hb8.mono HB7.out.size)); clear hb8)
        | (go_at_call 13; refine (HRW.out _ HB6.out).mono ?_; rintro e w7 ⟨⟨A7, c7, rfl, ho7⟩, hb7⟩; have HO7 := Lib.hid ho7; have HB7 := Lib.hid (HB6.out.trans (hb7.mono HB6.out.size)); have HB37 := Lib.hid (HB36.out.trans (hb7.mono HB36.out.size)); clear hb7 ho7)
        | (go_at_call 8; refine (gfixed_any _).mono ?_; rintro e w6 ⟨rfl, hb6⟩; have HB6 := Lib.hid (HB5.out.trans (hb6.mono HB5.out.size)); have HB36 := Lib.hid (HB35.out.trans (hb6.mono HB35.out.size)); clear hb6)
        | (go_at_call 11; refine (HCH.out _ HB4.out).mono ?_; rintro e w5 ⟨rfl, hb5⟩; have HB5 := Lib.hid (HB4.out.trans (hb5.mono HB4.out.size)); have HB35 := Lib.hid (HB34.out.trans (hb5.mono HB34.out.size)); clear hb5)
        | (go_at_call 10; refine (HRC.out _ HB3.out).mono ?_; rintro e w4 ⟨rfl, hb4⟩; have HB4 := Lib.hid (HB3.out.trans (hb4.mono HB3.out.size)); have HB34 := Lib.hid hb4; clear hb4)
        | (go_at_call 9; refine (HOR.out _ HB2.out).mono ?_; rintro e w3 ⟨⟨A5, c5, rfl, ho3⟩, hb3⟩; have HO3 := Lib.hid ho3; have HB3 := Lib.hid (HB2.out.trans (hb3.mono HB2.out.size)); clear hb3 ho3)
        | (go_at_call 7; refine HG.out.mono ?_; rintro e w2 ⟨he, hb2⟩; obtain rfl := he.no (fun h => h GS.out); have HB2 := Lib.hid hb2; clear hb2))
      go_ret
      exact ⟨rfl, HB8.out⟩
    · have HOR : Hid (∀ (W : World) (hb : Below w.heap.size w W), Calls Try.prog 9 #[.slice A n c] W fun e w' => e = .returned (.tuple #[.slice none 0 0, .int .i64 (chk (nds xs))]) ∧ Below W.heap.size W w') := fun W hb =>
        Calls.mono (order_any A n c xs hn hok W ((h.below hb).more hb.size)) (fun e w' ⟨⟨v, he, hv⟩, hb2⟩ => by
          rcases hv with ⟨_, h1⟩ | ⟨h0, _⟩
          · subst h1
            exact ⟨he, hb2⟩
          · exact absurd h0 hc0)
      obtain ⟨z, hz⟩ : ∃ z, z = chk (nds xs) := ⟨_, rfl⟩
      rw [← hz] at HOR HRC HCH hc0
      have hne : (z != 0) = true := by rw [bne_iff_ne]; exact hc0
      clear hok hg h gs hz hc0
      go_enter Try.func3, Try.ntmps3
      go_wp2_with (first
        | (go_at_call 8; refine (gfixed_any _).mono ?_; rintro e w6 ⟨rfl, hb6⟩; have HB6 := Lib.hid (HB5.out.trans (hb6.mono HB5.out.size)); clear hb6)
        | (go_at_call 11; refine (HCH.out _ HB4.out).mono ?_; rintro e w5 ⟨rfl, hb5⟩; have HB5 := Lib.hid (HB4.out.trans (hb5.mono HB4.out.size)); clear hb5)
        | (go_at_call 10; refine (HRC.out _ HB3.out).mono ?_; rintro e w4 ⟨rfl, hb4⟩; have HB4 := Lib.hid (HB3.out.trans (hb4.mono HB3.out.size)); clear hb4)
        | (go_at_call 9; refine (HOR.out _ HB2.out).mono ?_; rintro e w3 ⟨rfl, hb3⟩; have HB3 := Lib.hid (HB2.out.trans (hb3.mono HB2.out.size)); clear hb3)
        | (go_at_call 7; refine HG.out.mono ?_; rintro e w2 ⟨he, hb2⟩; obtain rfl := he.no (fun h => h GS.out); have HB2 := Lib.hid hb2; clear hb2))
      go_ret
      exact ⟨rfl, HB6.out⟩
  · have GS := Lib.hid gs
    clear hg h gs
    go_enter Try.func3, Try.ntmps3
    go_wp2_with (first
      | (go_at_call 8; refine (gfixed_any _).mono ?_; rintro e w3 ⟨rfl, hb3⟩; have HB3 := Lib.hid (HB2.out.trans (hb3.mono HB2.out.size)); clear hb3)
      | (go_at_call 7; refine HG.out.mono ?_; rintro e w2 ⟨he, hb2⟩; obtain rfl := he.yes GS.out; have HB2 := Lib.hid hb2; clear hb2))
    go_ret
    exact ⟨rfl, HB3.out⟩

end Go.Proofs.Ytpjmkinloldmjaa
