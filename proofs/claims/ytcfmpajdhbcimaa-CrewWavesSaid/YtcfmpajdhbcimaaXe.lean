/- graph.allUnlike, graph.allIn. -/
import Derived.WalkLawsBesides
import Derived.BigQuiet
import Derived.Deep.QuietTactic
import Derived.Test.YtcfmpajdhbcimaaXc
import Derived.Test.YtcfmpajdhbcimaaXb
import Derived.Test.YtcfmpajdhbcimaaRn00
import Derived.Test.YtcfmpajdhbcimaaRc0
namespace Go.Proofs.Ytcfmpajdhbcimaa
open Go.RowKit

set_option maxRecDepth 100000 in
set_option maxHeartbeats 1000000 in
theorem unlike_any (nm : List UInt8) (A : Option Addr) (n c : Nat) (ds : List (List UInt8)) (hn : n ≤ 1000000) (hnm : nm.length ≤ maxLen) (hds : ∀ d ∈ ds, d.length ≤ maxLen) (w : World) (hx : Reads w w.heap.size 1 A n (ds.map tsv)) :
    Calls Try.prog 39 #[tsv nm, .slice A n c] w fun e w' => Tells (nm :: ds).Nodup e ∧ Below w.heap.size w w' := by
  have HL : Hid (ds.length = n) := by have := hx.1; show _ = _; simpa using this
  have HX := Lib.hid hx
  have HD := Lib.hid hds
  have HT0 := Lib.hid (tmap_start w)
  have HNM := Lib.hid hnm
  unfold tsv
  have hmm := @run_makeMap Try.prog
  clear hx hds hnm
  go_enter Try.func39, Try.ntmps39
  go_wp2_with ((with_reducible show wpList _ _ _ (Oper.mk _ (Op.insert _ _ _ _) _ _ _ _ :: _) _ _); refine wpList_tins _ rfl _ _ _ 76 rfl 4 Try.underlying76 w.heap.size 0 _ rfl HT0.out (by unfold maxLen; omega) nm _ rfl rfl HNM.out ?_; intro w1 ht1 hg1; have HT1 : Hid (TMap w1 w.heap.size 1 (setF [nm])) := (ht1.same (fun u => setF_put [] nm u)); have HB1 := Lib.hid (((Below.refl w.heap.size w).alloc (Nat.le_refl _) (.map #[] 0)).grown hg1 ((Below.refl w.heap.size w).alloc (Nat.le_refl _) (.map #[] 0)).size (fun j hj => by cases hj; exact Nat.le_refl _)); clear ht1 hg1)
  go_loopw [13] (fun idx wr => ∃ i : Nat, i ≤ n ∧ idx = .int .i64 (i : Int) ∧ TMap wr w.heap.size (i + 1) (setF (nm :: ds.take i)) ∧ (nm :: ds.take i).Nodup ∧ Below w.heap.size w wr) (fun idx _ => n - (intOf idx).toNat)
  case atStart => exact ⟨0, by omega, rfl, HT1.out, by simp, HB1.out⟩
  case round =>
    obtain ⟨i, hi, rfl, ht, hnd, hb⟩ := hrel
    have HT := Lib.hid ht
    have HND := Lib.hid hnd
    have HB := Lib.hid hb
    by_cases hlt : i < n
    · obtain ⟨s, hs⟩ : ∃ s, ds[i]? = some s := ⟨_, List.getElem?_eq_getElem (by rw [HL.out]; exact hlt)⟩
      obtain ⟨ax, sv, rfl, hxb, hsv, hsc⟩ := (HX.out.below hb).at_ hlt
      obtain rfl : sv = tsv s := by rw [List.getElem?_map, hs] at hsv; simpa using hsv.symm
      unfold tsv at hsc
      have hsl := HD.out s (List.mem_of_getElem? hs)
      have hlk := ht.look hsl Try.underlying76 (zeroB wr)
      have HSL := Lib.hid hsl
      have HTK : Hid (ds.take (i + 1) = ds.take i ++ [s]) := by show _ = _; rw [List.take_add_one, hs]; rfl
      have HSM := Lib.hid (List.mem_of_getElem? hs)
      have hi0 : (0 : Int) ≤ (i : Int) := by omega
      have hi1 : (i : Int) < (n : Int) := by omega
      by_cases hin : s ∈ nm :: ds.take i
      · have hlk2 : (Instr.lookup 76 (.map (some w.heap.size)) (.string (tx s)) false).run Try.prog wr = .ok (.bool true) wr := by rw [hlk]; unfold setF; rw [if_pos hin]; rfl
        have HNO : Hid (¬ (nm :: ds).Nodup) := fun h => by
          have h1 : (nm :: ds.take (i + 1)).Nodup := List.Nodup.sublist (List.Sublist.cons_cons _ (List.take_sublist _ _)) h
          rw [HTK.out, ← List.cons_append, List.nodup_append] at h1
          exact h1.2.2 s hin s (by simp) rfl
        clear hlk hs hsv hsl ht hnd hb hin
        go_wp2
        go_ret
        exact ⟨tells_false HNO.out, HB.out⟩
      · have hlk2 : (Instr.lookup 76 (.map (some w.heap.size)) (.string (tx s)) false).run Try.prog wr = .ok (.bool false) wr := by rw [hlk]; unfold setF; rw [if_neg hin]; rfl
        have HN2 : Hid ((nm :: ds.take (i + 1)).Nodup) := by
          show List.Nodup _
          rw [HTK.out, ← List.cons_append, List.nodup_append]
          exact ⟨HND.out, by simp, fun a ha b hb => by obtain rfl := List.mem_singleton.1 hb; exact fun e => hin (e ▸ ha)⟩
        clear hlk hs hsv hsl ht hnd hb hin
        go_wp2_with (at_mapUpdate; refine wpList_tput _ rfl _ _ _ 76 rfl 4 Try.underlying76 w.heap.size (i + 1) _ rfl HT.out (by unfold maxLen; omega) s _ rfl rfl HSL.out ?_; intro w2 ht2 hg2; have HT2 : Hid (TMap w2 w.heap.size (i + 1 + 1) (setF (nm :: ds.take (i + 1)))) := (by rw [HTK.out]; exact ht2.same (fun u => setF_put (nm :: ds.take i) s u)); have HB2 := Lib.hid (HB.out.grown hg2 HB.out.size (fun j hj => by cases hj; exact Nat.le_refl _)); clear ht2 hg2)
        exact ⟨⟨i + 1, by omega, by go_num, HT2.out, HN2.out, HB2.out⟩, by simp [intOf]; omega⟩
    · obtain rfl : i = n := by omega
      rw [List.take_of_length_le (by rw [HL.out]; omega)] at HND
      clear ht hnd hb
      go_wp2
      go_ret
      exact ⟨tells_true HND.out, HB.out⟩

set_option maxRecDepth 100000 in
set_option maxHeartbeats 1000000 in
theorem allin_any (b N : Nat) (f : List UInt8 → Option Value) (A : Option Addr) (n c : Nat) (ds : List (List UInt8)) (hn : n ≤ 1000000) (hds : ∀ d ∈ ds, d.length ≤ maxLen) (w : World) (hm : TMap w b N f) (hx : Reads w w.heap.size 1 A n (ds.map tsv)) :
    Calls Try.prog 17 #[.map (some b), .slice A n c] w fun e w' => Tells (∀ d ∈ ds, (f d).isSome = true) e ∧ w = w' := by
  have HL : Hid (ds.length = n) := by have := hx.1; show _ = _; simpa using this
  have HX := Lib.hid hx
  have HD := Lib.hid hds
  have HM := Lib.hid hm
  clear hx hds hm
  go_enter Try.func17, Try.ntmps17
  go_wp2
  go_loopw [11] (fun idx wr => ∃ i : Nat, i ≤ n ∧ idx = .int .i64 (i : Int) ∧ (∀ d ∈ ds.take i, (f d).isSome = true) ∧ w = wr) (fun idx _ => n - (intOf idx).toNat)
  case atStart => exact ⟨0, by omega, rfl, by simp, rfl⟩
  case round =>
    obtain ⟨i, hi, rfl, hok, rfl⟩ := hrel
    have HOK := Lib.hid hok
    clear hok
    by_cases hlt : i < n
    · obtain ⟨s, hs⟩ : ∃ s, ds[i]? = some s := ⟨_, List.getElem?_eq_getElem (by rw [HL.out]; exact hlt)⟩
      obtain ⟨ax, sv, rfl, hxb, hsv, hsc⟩ := HX.out.at_ hlt
      obtain rfl : sv = tsv s := by rw [List.getElem?_map, hs] at hsv; simpa using hsv.symm
      unfold tsv at hsc
      have HSM := Lib.hid (List.mem_of_getElem? hs)
      have hlk := HM.out.look2 (HD.out s HSM.out) Try.underlying31 (zeroI w)
      have HTK : Hid (ds.take (i + 1) = ds.take i ++ [s]) := by show _ = _; rw [List.take_add_one, hs]; rfl
      have hi0 : (0 : Int) ≤ (i : Int) := by omega
      have hi1 : (i : Int) < (n : Int) := by omega
      generalize (f s).getD (Value.int .i64 0) = g at hlk
      cases hq : (f s).isSome with
      | true =>
        rw [hq] at hlk
        have HN2 : Hid (∀ d ∈ ds.take (i + 1), (f d).isSome = true) := fun d hd => by
          rw [HTK.out, List.mem_append] at hd
          rcases hd with hd | hd
          · exact HOK.out d hd
          · obtain rfl := List.mem_singleton.1 hd; exact hq
        clear hs hsv hq
        go_wp2
        exact ⟨⟨i + 1, by omega, by go_num, HN2.out, by first | rfl | trivial⟩, by simp [intOf]; omega⟩
      | false =>
        rw [hq] at hlk
        have HNO : Hid (¬ ∀ d ∈ ds, (f d).isSome = true) := fun h => by have := h s HSM.out; rw [hq] at this; cases this
        clear hs hsv hq
        go_wp2
        go_ret
        exact ⟨tells_false HNO.out, by first | rfl | trivial⟩
    · obtain rfl : i = n := by omega
      rw [List.take_of_length_le (by rw [HL.out]; omega)] at HOK
      go_wp2
      go_ret
      exact ⟨tells_true HOK.out, by first | rfl | trivial⟩

end Go.Proofs.Ytcfmpajdhbcimaa
