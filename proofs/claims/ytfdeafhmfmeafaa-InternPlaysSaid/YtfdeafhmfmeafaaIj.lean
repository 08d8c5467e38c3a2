/- The document's Cut; whether a table has these texts. -/
import Derived.Test.YtfdeafhmfmeafaaIh
namespace Go.Proofs.Ytfdeafhmfmeafaa
open Go.RowKit Go.Maps Go.ChangeMaps Go.WideMaps

theorem Own.first {w : World} {base n c k : Nat} {A : Option Addr} {l : List (List UInt8)} (h : Own w base (.slice A n c) l) (hk : k ≤ l.length) : Own w base (.slice A k c) (l.take k) := by
  have hlk : (l.take k).length = k := by rw [List.length_take]; omega
  obtain ⟨h1, ⟨h0, h00⟩ | ⟨g, cap, cur, hv, hb, hg, hn, hm, hs, hx⟩⟩ := h
  · injection h0 with e1 e2 e3
    subst e1; subst e2; subst e3
    have hk0 : k = 0 := by omega
    subst hk0
    exact ⟨by simp, .inl ⟨rfl, by simp⟩⟩
  · injection hv with e1 e2 e3
    subst e1; subst e2; subst e3
    refine ⟨by simp, .inr ⟨g, c, cur, by rw [hlk], hb, hg, by rw [hlk]; omega, hm, hs, ?_⟩⟩
    have h3 := congrArg (List.take k) hx
    rw [List.take_take] at h3
    rw [hlk, List.map_take, ← h3]
    congr 1
    omega

set_option maxRecDepth 100000 in
set_option maxHeartbeats 400000 in
theorem rcut_any (base : Nat) (v : Value) (l : List (List UInt8)) (sz : Int) (hn : l.length ≤ 1073741824) (w : World) (hl : Own w base v l) :
    Calls Try.prog 14 #[v, .int .i64 sz] w fun e w' => ∃ v', e = .returned v' ∧ Own w base v' (l.take (tcut l.length sz)) ∧ v'.ownBlock = v.ownBlock ∧ w = w' := by
  obtain ⟨A, n, c, rfl, hnl, hnc, hA, hr⟩ := hl.lis
  have hc : c ≤ maxLen := by
    rcases hl.2 with ⟨h0, _⟩ | ⟨g', cap, cur, hv, _, _, _, g2, _⟩
    · injection h0 with _ _ h0; subst h0; exact Nat.zero_le _
    · injection hv with _ _ hv2; subst hv2; exact g2
  unfold maxLen at hc
  rcases Int.lt_or_le sz 0 with h0 | h0
  · have ht : Hid (tcut l.length sz = 0) := by show tcut _ _ = 0; unfold tcut; omega
    have HF := Lib.hid (hl.first (k := 0) (Nat.zero_le _))
    clear hl hr
    go_enter Try.func14, Try.ntmps14
    go_wp2
    go_ret
    exact ⟨_, rfl, by rw [ht.out]; exact HF.out, by show (Value.slice A 0 c).ownBlock = _; cases A <;> rfl, rfl⟩
  · obtain ⟨k, rfl⟩ : ∃ k : Nat, sz = (k : Int) := ⟨sz.toNat, by omega⟩
    by_cases hk : n < k
    · have ht : Hid (l.take (tcut l.length k) = l) := by show l.take _ = l; unfold tcut; exact List.take_of_length_le (by omega)
      have HF := Lib.hid hl
      clear hl hr
      have hk0 : decide ((k : Int) < 0) = false := by rw [decide_eq_false_iff_not]; omega
      go_enter Try.func14, Try.ntmps14
      go_wp2
      go_ret
      exact ⟨_, rfl, by rw [ht.out]; exact HF.out, rfl, rfl⟩
    · have ht : Hid (tcut l.length k = k) := by show tcut _ _ = k; unfold tcut; omega
      have HF := Lib.hid (hl.first (k := k) (by omega))
      have hk0 : decide ((k : Int) < 0) = false := by rw [decide_eq_false_iff_not]; omega
      clear hl hr
      go_enter Try.func14, Try.ntmps14
      go_wp2
      go_ret
      exact ⟨_, rfl, by rw [ht.out]; exact HF.out, by show (Value.slice A k c).ownBlock = _; cases A <;> rfl, rfl⟩

set_option maxRecDepth 100000 in
set_option maxHeartbeats 1000000 in
theorem same_any (S : Nat → Prop) (b N B n c : Nat) (A : Option Addr) (l : List (List UInt8)) (hl : l.length ≤ 1000000) (w : World) (h : Tab w S b N l) (hr : Reads w B 1 A n (l.map tsv)) :
    Calls Try.prog 8 #[.pointer (some ⟨b, 0, none⟩), .slice A n c] w fun e w' => e = .returned (.bool true) ∧ w = w' := by
  have hml : l.length = n := by have := hr.1; simpa using this
  have HML := Lib.hid hml
  have HR := Lib.hid hr
  have HT := Lib.hid h
  have hnd : l.Nodup := by obtain ⟨_, _, _, _, _, _, _, _, hnd, _⟩ := h; exact hnd
  have htl : ∀ s ∈ l, s.length ≤ maxLen := by obtain ⟨_, _, _, _, _, _, _, _, _, hlen⟩ := h; exact hlen
  have HND := Lib.hid hnd
  have HTL := Lib.hid htl
  have hn6 : n ≤ 1000000 := by omega
  have hle := Len_any S b N l w h
  rw [hml] at hle
  have HLE := Lib.hid hle
  have htx := fun i : Nat => Text_any S b N l i (by omega) w h
  rw [hml] at htx
  have HTX := Lib.hid htx
  have hwn : IntKind.u64.wrap (n : Int) = (n : Int) := by rw [IntKind.wrap_u64]; omega
  clear hml hr h hnd htl hle htx hl
  go_enter Try.func8, Try.ntmps8
  go_wp2_with (go_at_call 16; refine HLE.out.mono ?_; rintro e w1 ⟨rfl, rfl⟩)
  go_loopw [22] (fun idx wr => ∃ i : Nat, i ≤ n ∧ idx = .int .i64 (i : Int) ∧ w = wr) (fun idx wr => n - (intOf idx).toNat)
  case atStart => exact ⟨0, by omega, rfl, rfl⟩
  case round =>
    obtain ⟨i, hi, rfl, rfl⟩ := hrel
    by_cases hlt : i < n
    · obtain ⟨ad, u, rfl, _, hu, hcell⟩ := HR.out.at_ hlt
      obtain ⟨s, hs⟩ : ∃ s, l[i]? = some s := ⟨_, List.getElem?_eq_getElem (by rw [HML.out]; exact hlt)⟩
      obtain rfl : u = tsv s := by rw [List.getElem?_map, hs] at hu; simpa using hu.symm
      obtain ⟨hin, hnum⟩ := tnum_of HND.out hs
      have hfi := Find_any _ _ _ l s (HTL.out s hin) w HT.out
      rw [hnum, decide_eq_true hin] at hfi
      have htx := HTX.out i
      have ht0 : ttext l i = s := by unfold ttext; rw [hs]; rfl
      rw [ht0, decide_eq_true hlt] at htx
      have HFI := Lib.hid hfi
      have HTI := Lib.hid htx
      have hwi : IntKind.u64.wrap (i : Int) = (i : Int) := by rw [IntKind.wrap_u64]; omega
      have hself : ((tx s).toList == (tx s).toList) = true := by simp
      unfold tsv at hcell HFI HTI
      clear hu hs hin hnum hfi htx ht0
      go_wp2_with (first
        | (go_at_call 17; refine HTI.out.mono ?_; rintro e w1 ⟨rfl, rfl⟩)
        | (go_at_call 10; refine HFI.out.mono ?_; rintro e w1 ⟨rfl, rfl⟩))
      exact ⟨⟨i + 1, by omega, by go_num, trivial⟩, by simp [intOf]; omega⟩
    · obtain rfl : i = n := by omega
      have hout : ∀ K : Nat, i ≤ K → Calls Try.prog 17 #[.pointer (some ⟨b, 0, none⟩), .int .u64 (K : Int)] w fun e w' => e = .returned (.tuple #[.string (tx []), .bool false]) ∧ w = w' := fun K hK => by
        have h := HTX.out K
        have e1 : ttext l K = [] := by unfold ttext; rw [List.getElem?_eq_none (by rw [HML.out]; exact hK)]; rfl
        rw [e1, decide_eq_false (by omega)] at h
        exact h
      have HZ : Hid (∀ z : Int, (i : Int) ≤ z → Calls Try.prog 17 #[.pointer (some ⟨b, 0, none⟩), .int .u64 z] w fun e w' => e = .returned (.tuple #[.string ⟨#[]⟩, .bool false]) ∧ w = w') := fun z hz => by
        obtain ⟨K, rfl⟩ : ∃ K : Nat, z = (K : Int) := ⟨z.toNat, by omega⟩
        exact hout K (by omega)
      clear hout
      go_wp2_with (go_at_call 17; refine (HZ.out _ (by omega)).mono ?_; rintro e w1 ⟨rfl, rfl⟩)
      go_ret
      exact ⟨rfl, rfl⟩

end Go.Proofs.Ytfdeafhmfmeafaa
