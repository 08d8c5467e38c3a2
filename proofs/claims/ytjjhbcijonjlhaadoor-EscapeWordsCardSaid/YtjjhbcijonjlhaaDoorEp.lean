/- The walk of EscapeWords. -/
import Derived.Test.YtjjhbcijonjlhaaDoorEl
import Derived.Test.YtjjhbcijonjlhaaDoorRx
namespace Go.Proofs.YtjjhbcijonjlhaaDoor
open Go.RowKit

/-- At a round of the law's loop. -/
def PRel (xs : List (List UInt8)) (w : World) (v5 v20 : Value) (wr : World) : Prop :=
  ∃ (i : Nat) (a : Value), a = v5 ∧ v20 = .int .i64 (i : Int) ∧ i ≤ xs.length ∧ wr.ownsRow w.heap.size 9 1 a i (((xs.take i).map eput).map tsv) ∧ (∀ x ∈ xs.take i, x.length ≤ 300) ∧ Below w.heap.size w wr

theorem own_cap {w : World} {base n c size : Nat} {e : TypeId} {A : Option Addr} {xs : List Value} (h : w.ownsRow base e size (.slice A n c) n xs) : n ≤ c := by
  rcases h.2 with ⟨h3, h4⟩ | ⟨g, cap, cur, h3, _, _, hn, _⟩
  · omega
  · injection h3 with _ _ h3
    omega

theorem eput_words (ws : List (List UInt8)) : ∀ x ∈ ws.map eput, ∀ b ∈ x, b ≠ 32 := fun x hx b hb => by
  obtain ⟨y, _, rfl⟩ := List.mem_map.1 hx
  have := eput_mem hb
  intro h
  subst h
  exact absurd this.1 (by decide)

set_option maxRecDepth 100000 in
set_option maxHeartbeats 2000000 in
theorem ewordslaw_any (l : List UInt8) (L : Option Addr) (n c : Nat) (xs : List (List UInt8)) (hc : n ≤ c) (hm : n ≤ maxLen) (w : World) (hsh : w.ShapedOpen Tryd.prog) (hr : Reads w w.heap.size 1 L n (xs.map tsv)) :
    Calls Tryd.prog 3 #[.string (tx l), .slice L n c] w fun e w' => e = .returned (.bool true) ∧ Below w.heap.size w w' := by
  have hfx := Lib.hid (fun W => efixed_any W)
  have hsz : (tx l).size = l.length := tx_size l
  have HL : Hid (xs.length = n) := by have := hr.1; show _ = _; simpa using this
  have HR := Lib.hid hr
  have HSH := Lib.hid hsh
  clear hr hsh
  obtain ⟨m, hmm⟩ : ∃ m, m = l.length := ⟨_, rfl⟩
  have HM := Lib.hid hmm
  rw [← hmm] at hsz
  by_cases hlen : 300 < m
  · generalize tx l = s at *
    clear hmm
    go_enter Tryd.func3, Tryd.ntmps3
    go_wp2_with fail
    refine (hfx.out _).mono ?_; rintro e w1 ⟨rfl, b1⟩
    go_wp2
    go_ret
    exact ⟨rfl, b1⟩
  by_cases hnum : 30 < n
  · generalize tx l = s at *
    clear hmm
    go_enter Tryd.func3, Tryd.ntmps3
    go_wp2_with fail
    refine (hfx.out _).mono ?_; rintro e w1 ⟨rfl, b1⟩
    go_wp2
    go_ret
    exact ⟨rfl, b1⟩
  obtain ⟨i0, ii0, iz0, iz1, iz2⟩ := info_parts winfo
  have HWD := Lib.hid (fun W h => ewords_any l (by rw [← HM.out]; omega) W h)
  have HRW := Lib.hid (fun W => rwords_any l (by rw [← HM.out]; omega) W)
  have hwl := words_len l.length l (Nat.le_refl _)
  rw [← hmm] at hwl
  have HJW := Lib.hid (joinw_words l.length l (Nat.le_refl _))
  have HTL := Lib.hid (show l.length ≤ 300 by rw [← HM.out]; omega)
  have H0 : Hid (PRel xs w (.slice none 0 0) (.int .i64 0) w) := ⟨0, _, rfl, rfl, Nat.zero_le _, World.ownsRow_nil _ _ _ _, by simp, Below.refl _ _⟩
  obtain ⟨nw, hnw⟩ : ∃ nw, nw = (words l).length := ⟨_, rfl⟩
  have HNW := Lib.hid hnw
  rw [← hnw] at hwl HWD HRW
  obtain ⟨q, hq⟩ : ∃ q, q = words l := ⟨_, rfl⟩
  rw [← hq] at HWD HRW HJW HNW
  generalize hs : tx l = s at *
  have HS := Lib.hid hs
  clear hmm hnw hq hs
  go_enter Tryd.func3, Tryd.ntmps3
  go_wp2
  go_loopw [5, 20] (fun v5 v20 wr => PRel xs w v5 v20 wr) (fun _ v20 _ => n - (intOf v20).toNat)
  case atStart => exact H0.out
  case round =>
    obtain ⟨i, a, rfl, rfl, hi, hown, hle, hb⟩ := hrel
    clear H0
    rw [HL.out] at hi
    have HOWN := Lib.hid hown
    have HLE := Lib.hid hle
    have HB := Lib.hid hb
    obtain ⟨A3, c3, rfl, hA3⟩ := own_slice hown
    clear hown hle hb
    by_cases hlt : i < n
    · obtain ⟨x, hxi⟩ : ∃ x, xs[i]? = some x := ⟨_, List.getElem?_eq_getElem (by rw [HL.out]; exact hlt)⟩
      obtain ⟨ad, rfl, _, hcx⟩ := (HR.out.below HB.out).2 (by omega)
      have k0 := hcx i (tsv x) (by rw [List.getElem?_map, hxi]; rfl)
      unfold tsv at k0
      have hst : xs.take (i + 1) = xs.take i ++ [x] := by rw [List.take_add_one, hxi]; rfl
      have HST := Lib.hid hst
      have hi0 : (0 : Int) ≤ (i : Int) := by omega
      have hi1 : (i : Int) < (n : Int) := by omega
      have hxz : (tx x).size = x.length := tx_size x
      obtain ⟨lx, hlx⟩ : ∃ lx, lx = x.length := ⟨_, rfl⟩
      have HLX := Lib.hid hlx
      rw [← hlx] at hxz
      by_cases hbig : 300 < lx
      · generalize tx x = sx at *
        clear hcx hxi hst hlx
        go_wp2_with fail
        refine (hfx.out _).mono ?_; rintro e w1 ⟨rfl, b1⟩
        have hb1 := HB.out.trans (b1.mono HB.out.size)
        clear b1
        go_wp2
        go_ret
        exact ⟨rfl, hb1⟩
      · have HP := Lib.hid (fun W => eput_any x (by rw [← HLX.out]; omega) W)
        obtain ⟨p, hp⟩ : ∃ p, p = eput x := ⟨_, rfl⟩
        have HPE := Lib.hid hp
        rw [← hp] at HP
        generalize hsx : tx x = sx at *
        clear hcx hxi hst hlx hp hsx
        go_wp2_with fail
        refine (HP.out _).mono ?_; rintro e w1 ⟨rfl, b1⟩
        have HO2 := Lib.hid (World.ownsRow.alloc (own_below HOWN.out b1) (.cells #[.string (tx p)] 9))
        have HR2 := Lib.hid (reads_one_row w1 9 (.string (tx p)))
        have hb1 := HB.out.trans (b1.mono HB.out.size)
        have HB2 := Lib.hid (hb1.alloc hb1.size (.cells #[.string (tx p)] 9))
        clear b1 hb1
        go_wp2_with (at_builtin; refine wpList_append_told _ rfl (.tmp 28) (.tmp 31) 22 rfl w.heap.size 9 i0 _ 1 16 Tryd.underlying22 ii0 iz0 iz1 iz2 rfl (by decide) _ i _ rfl HO2.out (some ⟨w1.heap.size, 0, none⟩) 1 1 (w1.heap.size + 1) [.string (tx p)] rfl (by simp) HR2.out (fun u hu => by obtain rfl := List.mem_singleton.1 hu; rfl) (by unfold maxLen; omega) (by omega) HB2.out.size ?_; intro v6 w6 ho6 hg6 hv6; have HO6 := Lib.hid ho6; have HB6 := Lib.hid (HB2.out.grown hg6 HB2.out.size (own_block HO2.out)); clear ho6 hg6 hv6)
        exact ⟨⟨i + 1, _, rfl, by go_num, by rw [HL.out]; omega, by rw [HST.out, List.map_append, List.map_append]; simp only [List.map_cons, List.map_nil, ← HPE.out]; exact HO6.out, fun y hy => by
          rw [HST.out, List.mem_append] at hy
          rcases hy with hy | hy
          · exact HLE.out y hy
          · obtain rfl := List.mem_singleton.1 hy
            rw [← HLX.out]; omega, HB6.out⟩, by simp [intOf]; omega⟩
    · obtain rfl : i = n := by omega
      have htk : xs.take i = xs := List.take_of_length_le (by rw [HL.out]; exact Nat.le_refl _)
      rw [htk] at HLE HOWN
      have hb := HB.out
      have hjx := joinw_take xs (fun y hy => by have := HLE.out y hy; omega)
      have hjp := joinw_take (xs.map eput) (fun y hy => by
        obtain ⟨z, hz, rfl⟩ := List.mem_map.1 hy
        have h1 := HLE.out z hz
        have h2 := eput_len z
        omega)
      rw [List.length_map] at hjp
      rw [HL.out] at hjx hjp
      have HEJ : Hid (∀ W, Below w.heap.size w W → Calls Tryd.prog 9 #[.slice L i c] W fun e w' => e = .returned (.string (tx (joinw xs))) ∧ Below W.heap.size W w') :=
        fun W hW => ejoin_any L i c xs hc (by omega) (by omega) W ((HR.out.below hW).more hW.size)
      have HRJ : Hid (∀ W, Below w.heap.size w W → Calls Tryd.prog 10 #[.slice L i c] W fun e w' => e = .returned (.string (tx (joinw xs))) ∧ W = w') :=
        fun W hW => rjoin_any L i c xs (by omega) (fun y hy => by have := HLE.out y hy; omega) W ((HR.out.below hW).more hW.size)
      have HEP : Hid (∀ W, W.ownsRow w.heap.size 9 1 (.slice A3 i c3) i ((xs.map eput).map tsv) → Calls Tryd.prog 9 #[.slice A3 i c3] W fun e w' => e = .returned (.string (tx (joinw (xs.map eput)))) ∧ Below W.heap.size W w') :=
        fun W hW => ejoin_any A3 i c3 (xs.map eput) (own_cap hW) (by omega) (by omega) W (Reads.of_own hW)
      have HEW : Hid (∀ W, W.ShapedOpen Tryd.prog → 0 < i → Calls Tryd.prog 6 #[.string (tx (joinw (xs.map eput)))] W fun e w' => ∃ v, e = .returned v ∧ w'.ownsRow W.heap.size 9 1 v i ((xs.map eput).map tsv) ∧ Below W.heap.size W w') := fun W hW h0 => by
        have h1 := ewords_any (joinw (xs.map eput)) (by omega) W hW
        rw [words_joinw (xs.map eput) (fun h => by
          have h2 := congrArg List.length h
          rw [List.length_map, HL.out] at h2
          simp at h2
          omega) (eput_words xs), List.length_map, HL.out] at h1
        exact h1
      obtain ⟨jx, hjx0⟩ : ∃ jx, jx = tx (joinw xs) := ⟨_, rfl⟩
      obtain ⟨jp, hjp0⟩ : ∃ jp, jp = tx (joinw (xs.map eput)) := ⟨_, rfl⟩
      rw [← hjx0] at HEJ HRJ
      rw [← hjp0] at HEP HEW
      clear hjx hjp hjx0 hjp0 htk
      go_wp2_with fail
      refine (HWD.out _ (shaped_below HSH.out hb)).mono ?_; rintro e w1 ⟨v1, rfl, o1, b1⟩
      obtain ⟨A1, c1, rfl, hA1⟩ := own_slice o1
      have O1 := Lib.hid o1
      have B1 := Lib.hid (hb.trans (b1.mono hb.size))
      have W1 := Lib.hid (own_below HOWN.out b1)
      clear o1 b1
      go_wp2_with fail
      refine (HRW.out _).mono ?_; rintro e w2 ⟨v2, rfl, o2, b2⟩
      obtain ⟨A2, c2, rfl, hA2⟩ := own_slice o2
      have O2 := Lib.hid o2
      have O12 := Lib.hid (own_below O1.out b2)
      have B2 := Lib.hid (B1.out.trans (b2.mono B1.out.size))
      have W2 := Lib.hid (own_below W1.out b2)
      clear o2 b2
      go_wp2_with fail
      refine (texts_same A1 A2 nw c1 c2 _ _ q (by omega) _ (Nat.le_refl _) (Nat.le_refl _) (Reads.of_own O12.out) (Reads.of_own O2.out)).mono ?_; rintro e w3 ⟨rfl, b3⟩
      have O13 := Lib.hid (own_below O12.out b3)
      have B3 := Lib.hid (B2.out.trans (b3.mono B2.out.size))
      have W3 := Lib.hid (own_below W2.out b3)
      clear b3
      go_wp2_with fail
      refine (HEJ.out _ B3.out).mono ?_; rintro e w4 ⟨rfl, b4⟩
      have O14 := Lib.hid (own_below O13.out b4)
      have B4 := Lib.hid (B3.out.trans (b4.mono B3.out.size))
      have W4 := Lib.hid (own_below W3.out b4)
      clear b4
      go_wp2_with fail
      refine (HRJ.out _ B4.out).mono ?_; rintro e w5 ⟨rfl, rfl⟩
      go_wp2_with fail
      have hej := ejoin_any A1 nw c1 q (own_cap O14.out) (by omega) (by rw [HJW.out]; have := HTL.out; omega) _ (Reads.of_own O14.out)
      rw [HJW.out, HS.out] at hej
      refine hej.mono ?_; rintro e w6 ⟨rfl, b6⟩
      have B6 := Lib.hid (B4.out.trans (b6.mono B4.out.size))
      have W6 := Lib.hid (own_below W4.out b6)
      clear b6 hej
      go_wp2_with fail
      refine (hfx.out _).mono ?_; rintro e w7 ⟨rfl, b7⟩
      have B7 := Lib.hid (B6.out.trans (b7.mono B6.out.size))
      have W7 := Lib.hid (own_below W6.out b7)
      clear b7
      by_cases h0 : i = 0
      · subst h0
        have hb7 := B7.out
        go_wp2
        go_ret
        exact ⟨rfl, hb7⟩
      · have hz : ((i : Int) == 0) = false := by rw [beq_eq_false_iff_ne]; omega
        go_wp2_with fail
        refine (HEP.out _ W7.out).mono ?_; rintro e w8 ⟨rfl, b8⟩
        have B8 := Lib.hid (B7.out.trans (b8.mono B7.out.size))
        have W8 := Lib.hid (own_below W7.out b8)
        clear b8
        go_wp2_with fail
        refine (HEW.out _ (shaped_below HSH.out B8.out) (by omega)).mono ?_; rintro e w9 ⟨v9, rfl, o9, b9⟩
        obtain ⟨A9, c9, rfl, hA9⟩ := own_slice o9
        have O9 := Lib.hid o9
        have B9 := Lib.hid (B8.out.trans (b9.mono B8.out.size))
        have W9 := Lib.hid (own_below W8.out b9)
        clear o9 b9
        go_wp2_with fail
        refine (texts_same A9 A3 i c9 c3 _ _ (xs.map eput) (by omega) _ (Nat.le_refl _) (Nat.le_refl _) (Reads.of_own O9.out) (Reads.of_own W9.out)).mono ?_; rintro e w10 ⟨rfl, b10⟩
        have hb10 := B9.out.trans (b10.mono B9.out.size)
        clear b10
        go_wp2
        go_ret
        exact ⟨rfl, hb10⟩

end Go.Proofs.YtjjhbcijonjlhaaDoor
