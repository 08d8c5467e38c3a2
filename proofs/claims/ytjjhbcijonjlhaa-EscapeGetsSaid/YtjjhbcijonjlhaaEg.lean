/- escape.read, escape.Get. -/
import Derived.Test.YtjjhbcijonjlhaaEf
namespace Go.Proofs.Ytjjhbcijonjlhaa
open Go.RowKit

theorem tx_extract (l : List UInt8) (a b : Nat) : (tx l).extract a b = tx ((l.take b).drop a) := by
  apply ByteArray.ext
  simp [tx, ByteArray.data_extract]
  rw [List.drop_take]

def slen : Value → Nat
  | .string s => s.size
  | _ => 0

def ERel (l : List UInt8) (w : World) (v0 v3 : Value) (wr : World) : Prop :=
  ∃ (acc r : List UInt8) (va : Value), va = v3 ∧ v0 = .string (tx r) ∧ wr.ownsRow w.heap.size 5 1 va acc.length (acc.map bv) ∧ rest l = acc ++ rest r ∧ acc.length + r.length ≤ l.length ∧ Below w.heap.size w wr

set_option maxRecDepth 100000 in
set_option maxHeartbeats 1000000 in
theorem eread_any (l : List UInt8) (hl : l.length ≤ 5000) (w : World) :
    Calls Try.prog 14 #[.string (tx l)] w fun e w' => e = .returned (.string (tx (eread l))) ∧ Below w.heap.size w w' := by
  obtain ⟨i0, hi, hz0, hz1, hz2⟩ := info_parts einfo
  by_cases h45 : l = [45]
  · subst h45
    have h1 : ((tx [45]).toList == [45]) = true := by rw [eq_bytes]; decide
    go_enter Try.func14, Try.ntmps14
    go_wp2
    go_ret
    exact ⟨rfl, Below.refl _ _⟩
  · have h1 : ((tx l).toList == [45]) = false := by rw [eq_bytes, decide_eq_false h45]
    have hfin : eread l = rest l := by unfold eread rest; rw [if_neg h45]
    have H0 : Hid (ERel l w (.string (tx l)) (.slice none 0 0) w) := ⟨[], l, _, rfl, rfl, World.ownsRow_nil _ _ _ _, rfl, by simp, Below.refl _ _⟩
    rw [hfin]
    clear hfin h45
    generalize hs : tx l = s at h1 H0 ⊢
    clear hs
    go_enter Try.func14, Try.ntmps14
    go_wp2
    clear h1
    go_loopw [0, 3] (fun v0 v3 wr => ERel l w v0 v3 wr) (fun v0 _ _ => slen v0)
    case atStart => exact H0.out
    case round =>
      obtain ⟨acc, r, va, rfl, rfl, hown, hrest, hlen, hb⟩ := hrel
      clear H0
      cases r with
      | nil =>
        have h1 : (tx []).toList.isEmpty = true := by rw [emp_bytes]; decide
        have h2 : (!(tx []).toList.isEmpty) = false := by rw [h1]; rfl
        rw [rest_nil, List.append_nil] at hrest
        have HRE := Lib.hid hrest
        obtain ⟨A4, c4, rfl, _⟩ := own_slice hown
        have hcv := conv_reads (P := Try.prog) (src := 28) (dst := 9) (c := c4) Try.underlying28 Try.underlying5 Try.underlying9 (Reads.of_own hown)
        have HB := Lib.hid hb
        clear hrest hown hb
        generalize hs : tx [] = s at *
        clear hs
        go_wp2
        go_ret
        exact ⟨by rw [HRE.out]; rfl, HB.out⟩
      | cons c m =>
        have h1 : (tx (c :: m)).toList.isEmpty = false := by rw [emp_bytes]; simp
        have h2 : (!(tx (c :: m)).toList.isEmpty) = true := by rw [h1]; rfl
        have hsz : (tx (c :: m)).size = m.length + 1 := by rw [tx_size]; rfl
        have hah := ahead_any c m (by simp at hlen; omega) wr
        unfold ahv at hah
        rw [rest_cons] at hrest
        have h13 := ahd_two c m
        obtain ⟨x, hx⟩ : ∃ x, x = (ahd c m).1 := ⟨_, rfl⟩
        obtain ⟨k, hk⟩ : ∃ k, k = (ahd c m).2 := ⟨_, rfl⟩
        rw [← hx, ← hk] at hah hrest
        have HD : Hid ((tx (c :: m)).extract k (m.length + 1) = tx ((c :: m).drop k)) := by show _ = _; rw [tx_extract, List.take_of_length_le (by simp)]
        rw [← hk] at h13
        have HAH := Lib.hid hah
        have HRE := Lib.hid hrest
        have HOWN := Lib.hid hown
        have HB := Lib.hid hb
        obtain ⟨n, hn⟩ : ∃ n, n = m.length := ⟨_, rfl⟩
        rw [← hn] at hsz h13 HD
        have HN := Lib.hid hn
        have hlen2 : acc.length + (n + 1) ≤ l.length := by rw [hn]; simpa using hlen
        clear hah hrest hown hb hx hk hn hlen
        generalize hs : tx (c :: m) = s at *
        clear hs
        have hk1 : 1 ≤ k := by omega
        have hk2 : k ≤ n + 1 := by omega
        clear h13
        obtain ⟨na, hna⟩ : ∃ na, na = acc.length := ⟨_, rfl⟩
        have HNA := Lib.hid hna
        rw [← hna] at HOWN hlen2
        clear hna
        go_wp2_with (first
          | (go_at_call 19; refine HAH.out.mono ?_; rintro e w3 ⟨rfl, hb3⟩; have HO3 := Lib.hid (World.ownsRow.alloc (own_below HOWN.out hb3) (.cells #[.int .u8 (x.toNat : Int)] 5)); have HB3 := Lib.hid ((HB.out.trans (hb3.mono HB.out.size)).alloc (by have h1 := HB.out.size; have h2 := hb3.size; omega) (.cells #[.int .u8 (x.toNat : Int)] 5)); have HR3 := Lib.hid (reads_one_row w3 5 (.int .u8 (x.toNat : Int))); clear hb3)
          | (at_builtin; refine wpList_append_told _ rfl (.tmp 15) (.tmp 17) 28 rfl w.heap.size 5 i0 _ 1 1 Try.underlying28 hi hz0 hz1 hz2 rfl (by decide) _ na _ rfl HO3.out (some ⟨w3.heap.size, 0, none⟩) 1 1 (w3.heap.size + 1) [.int .u8 (x.toNat : Int)] rfl (by simp) HR3.out (fun u hu => by obtain rfl := List.mem_singleton.1 hu; rfl) (by unfold maxLen; omega) (by omega) HB3.out.size ?_; intro v6 w6 ho6 hg6 hv6; have HO6 := Lib.hid ho6; have HB6 := Lib.hid (HB3.out.grown hg6 HB3.out.size (own_block HO3.out)); clear ho6 hg6 hv6))
        have hdl : ((c :: m).drop k).length = n + 1 - k := by rw [List.length_drop, List.length_cons, ← HN.out]
        refine ⟨⟨acc ++ [x], (c :: m).drop k, v6, rfl, by rw [HD.out], ?_, by rw [HRE.out]; simp, by rw [List.length_append, hdl, ← HNA.out, List.length_singleton]; omega, HB6.out⟩, ?_⟩
        · rw [List.map_append, List.length_append, ← HNA.out]; exact HO6.out
        · show (s.extract k (n + 1)).size < s.size
          rw [HD.out, tx_size, hdl, hsz]; omega

/-- escape.Get. -/
theorem eget_any (l : List UInt8) (hl : l.length ≤ 1000) (w : World) :
    Calls Try.prog 7 #[.string (tx l)] w fun e w' => e = .returned (.tuple #[.string (tx (eget l).1), .bool (eget l).2]) ∧ Below w.heap.size w w' := by
  have hr := fun W => eread_any l (by omega) W
  have hlr : (eread l).length ≤ 1000 := by
    have := eread_len l
    omega
  have hp := fun W => eput_any (eread l) hlr W
  obtain ⟨r, hr0⟩ : ∃ r, r = eread l := ⟨_, rfl⟩
  obtain ⟨q, hq0⟩ : ∃ q, q = eput (eread l) := ⟨_, rfl⟩
  have he : eget l = if q = l then (r, true) else ([], false) := by rw [hq0, hr0]; rfl
  rw [← hr0] at hr
  rw [← hq0, ← hr0] at hp
  rw [he]
  have H1 := Lib.hid hr
  have H2 := Lib.hid hp
  clear hr hp he hr0 hq0 hlr
  have hbb : ((tx q).toList == (tx l).toList) = decide (q = l) := by rw [tx_toList (a := l)]; exact eq_bytes q l
  by_cases hql : q = l
  · rw [if_pos hql]
    rw [decide_eq_true hql] at hbb
    have hb2 : ((tx q).toList != (tx l).toList) = false := by rw [bne, hbb]; rfl
    generalize tx q = sq at *
    generalize tx r = sr at *
    generalize tx l = sl at *
    clear hql
    go_enter Try.func7, Try.ntmps7
    go_wp2_with (first
      | (go_at_call 14; refine (H1.out _).mono ?_; rintro e w3 ⟨rfl, hb3⟩)
      | (go_at_call 6; refine (H2.out _).mono ?_; rintro e w4 ⟨rfl, hb4⟩))
    go_ret2
    exact ⟨rfl, hb3.trans (hb4.mono hb3.size)⟩
  · rw [if_neg hql]
    rw [decide_eq_false hql] at hbb
    have hb2 : ((tx q).toList != (tx l).toList) = true := by rw [bne, hbb]; rfl
    generalize tx q = sq at *
    generalize tx r = sr at *
    generalize tx l = sl at *
    clear hql
    go_enter Try.func7, Try.ntmps7
    go_wp2_with (first
      | (go_at_call 14; refine (H1.out _).mono ?_; rintro e w3 ⟨rfl, hb3⟩)
      | (go_at_call 6; refine (H2.out _).mono ?_; rintro e w4 ⟨rfl, hb4⟩))
    go_ret2
    exact ⟨rfl, hb3.trans (hb4.mono hb3.size)⟩

end Go.Proofs.Ytjjhbcijonjlhaa
