/- Texts of one proof, one behind the other. -/
import Derived.Test.YtidkahmjjknkmaaMh1
import Derived.Deep.RegionWith
import Derived.RegionTactic

/- The walks of the document's own answers: Put and Get of tephraref01. -/
namespace Go.Proofs.Ytidkahmjjknkmaa
open Go.RowKit Go.Shelf

set_option maxRecDepth 100000 in
set_option maxHeartbeats 400000 in
theorem refput_lt (n : Nat) (h : n < 128) (w : World) :
    Calls Try.prog 28 #[.int .u64 (n : Int)] w fun e w' => e = .returned (.string (tx (vb n))) ∧ Below w.heap.size w w' := by
  have hcv : (convert 44 9 (.slice (some ⟨w.heap.size, 0, none⟩) 1 1)).run Try.prog (w.alloc (.cells #[.int .u8 (n : Int)] 5)) = .ok (.string (tx [UInt8.ofNat n])) (w.alloc (.cells #[.int .u8 (n : Int)] 5)) := by
    rw [← bv_ofNat (show n < 256 by omega)]
    exact conv_reads Try.underlying44 Try.underlying5 Try.underlying9 (reads_one w 5 _)
  rw [vb_lt h]
  go_enter Try.func28, Try.ntmps28
  go_wp2
  go_ret
  exact ⟨rfl, (Below.refl _ _).alloc (Nat.le_refl _) _⟩

set_option maxRecDepth 100000 in
set_option maxHeartbeats 400000 in
theorem refput_ge (n : Nat) (h : ¬ n < 128) (hlen : (vb (n / 128)).length ≤ 10) (hw : IntKind.u64.wrap ((n / 128 : Nat) : Int) = ((n / 128 : Nat) : Int)) (ih : ∀ w, Calls Try.prog 28 #[.int .u64 ((n / 128 : Nat) : Int)] w fun e w' => e = .returned (.string (tx (vb (n / 128)))) ∧ Below w.heap.size w w') (w : World) :
    Calls Try.prog 28 #[.int .u64 (n : Int)] w fun e w' => e = .returned (.string (tx (vb n))) ∧ Below w.heap.size w w' := by
  rw [vb_ge (by omega)]
  obtain ⟨r, hr⟩ : ∃ r, r = n % 128 := ⟨_, rfl⟩
  obtain ⟨q, hq⟩ : ∃ q, q = n / 128 := ⟨_, rfl⟩
  have hr128 : r < 128 := by omega
  have a1 : (n : Int).tmod 128 = (r : Int) := by rw [Int.tmod_eq_emod_of_nonneg (by omega)]; omega
  have a2 : IntKind.u8.wrap (r : Int) = (r : Int) := by rw [IntKind.wrap_u8]; omega
  have a3 : IntKind.u8.wrap ((r : Int) + 128) = (r : Int) + 128 := by rw [IntKind.wrap_u8]; omega
  have a4 : (n : Int) / 128 = (q : Int) := by omega
  rw [← hq] at ih hw hlen ⊢
  rw [← hr]
  have IH := Lib.hid ih
  clear ih
  obtain ⟨x, hx⟩ : ∃ x, x = UInt8.ofNat (r + 128) := ⟨_, rfl⟩
  have hbx : bv x = .int .u8 ((r : Int) + 128) := by rw [hx, bv_ofNat (by omega)]; rfl
  have hone : ∀ W : World, Reads (W.alloc (.cells #[.int .u8 ((r : Int) + 128)] 5)) (W.heap.size + 1) 1 (some ⟨W.heap.size, 0, none⟩) 1 ([x].map bv) := by
    intro W
    rw [← hbx]
    exact reads_one W 5 x
  have HONE := Lib.hid hone
  clear hone
  have hcvA : ∀ W : World, (convert 44 9 (.slice (some ⟨W.heap.size, 0, none⟩) 1 1)).run Try.prog (W.alloc (.cells #[.int .u8 ((r : Int) + 128)] 5)) = .ok (.string (tx [x])) (W.alloc (.cells #[.int .u8 ((r : Int) + 128)] 5)) := by
    intro W
    exact conv_reads Try.underlying44 Try.underlying5 Try.underlying9 (HONE.out W)
  have hcvB : ∀ W : World, (convert 44 9 (.slice (some ⟨W.heap.size, 0, none⟩) 1 1)).run Try.prog (W.alloc (.cells #[.int .u8 ((r : Int) + 128)] 5)).drew = .ok (.string (tx [x])) (W.alloc (.cells #[.int .u8 ((r : Int) + 128)] 5)).drew := by
    intro W
    exact conv_reads Try.underlying44 Try.underlying5 Try.underlying9 (HONE.out W).drew
  have hadd : ∀ W : World, (Op.stringOp .add (tx [x]) (tx (vb q))).run Try.prog W = .ok (.string (tx (x :: vb q))) W := fun W => add_tx W [x] (vb q) (by simp; omega)
  rw [← hx]
  have HBX := Lib.hid hbx
  have HX := Lib.hid hx
  have HR := Lib.hid hr
  have HQ := Lib.hid hq
  clear hbx hx hr hq
  go_enter Try.func28, Try.ntmps28
  go_wp2
  go_region_with (go_at_call 28; refine (IH.out _).mono ?_; rintro e w' ⟨rfl, hb⟩; first | (have hcvC : (convert 44 9 (.slice (some ⟨w.heap.size, 0, none⟩) 1 1)).run Try.prog w' = .ok (.string (tx [x])) w' := conv_reads Try.underlying44 Try.underlying5 Try.underlying9 ((HONE.out w).drew.below (hb.mono (by simp)))) | skip)
  all_goals
    go_wp2
    go_ret
    first
      | exact ⟨rfl, (((Below.refl _ w).alloc (Nat.le_refl _) _).drew).trans (hb.mono (by simp))⟩
      | exact ⟨rfl, ((Below.refl _ w).drew.trans hb).alloc (by have := hb.size; simpa using this) _⟩

theorem refput_pow : ∀ (k n : Nat), n < 128 ^ (k + 1) → n < top → ∀ w : World,
    Calls Try.prog 28 #[.int .u64 (n : Int)] w fun e w' => e = .returned (.string (tx (vb n))) ∧ Below w.heap.size w w'
  | 0, n, h, _, w => refput_lt n (by simpa using h) w
  | k + 1, n, h, ht, w => by
    by_cases h1 : n < 128
    · exact refput_lt n h1 w
    · have hq : n / 128 < 128 ^ (k + 1) := by
        rw [Nat.pow_succ] at h
        exact Nat.div_lt_of_lt_mul (by rw [Nat.mul_comm]; exact h)
      have hqt : n / 128 < top := by omega
      exact refput_ge n h1 (vb_len _ hqt) (by rw [IntKind.wrap_u64]; unfold top at hqt; omega) (refput_pow k (n / 128) hq hqt) w

/-- **The document's Put, at every number of 64 bits.** -/
theorem refput_any (n : Nat) (h : n < top) (w : World) : Calls Try.prog 28 #[.int .u64 (n : Int)] w fun e w' => e = .returned (.string (tx (vb n))) ∧ Below w.heap.size w w' :=
  refput_pow 9 n (by unfold top at h; have : (128 : Nat) ^ (9 + 1) = 1180591620717411303424 := by decide
                     omega) h w

end Go.Proofs.Ytidkahmjjknkmaa

/- The walk of the document's Get: at every text and every place. -/
namespace Go.Proofs.Ytidkahmjjknkmaa
open Go.RowKit Go.Shelf

/-- At the head of a round of the document's loop. -/
def QRel (at_ : Nat) (r : Nat × Nat × Nat) (bs : List UInt8) (acc times idx : Value) : Prop :=
  ∃ i a t : Nat, at_ + i ≤ bs.length ∧ i ≤ 9 ∧ idx = .int .i64 (i : Int) ∧ acc = .int .u64 (a : Int) ∧ times = .int .u64 (t : Int) ∧ t = 128 ^ i ∧ r = gr i a (bs.drop (at_ + i)) ∧ a < 128 ^ i

theorem acc_ok (a t v i : Nat) (hi : i ≤ 9) (ht : t = 128 ^ i) (ha : a < 128 ^ i) (hv : i = 9 → v ≤ 1) :
    IntKind.u64.wrap ((a : Int) + IntKind.u64.wrap ((t : Int) * ((v : Int) % 128))) = ((a + v % 128 * 128 ^ i : Nat) : Int) := by
  have hx : v % 128 * 128 ^ i < 9223372036854775809 := by
    by_cases h9 : i = 9
    · subst h9
      have := hv rfl
      have h2 : v % 128 * 128 ^ 9 ≤ 1 * 128 ^ 9 := Nat.mul_le_mul_right _ (by omega)
      omega
    · have h1 : 128 ^ i ≤ 128 ^ 8 := Nat.pow_le_pow_right (by omega) (by omega)
      have h2 : v % 128 * 128 ^ i ≤ 127 * 128 ^ 8 := Nat.mul_le_mul (by omega) h1
      omega
  have ha2 : a < 9223372036854775808 := by
    have h1 : 128 ^ i ≤ 128 ^ 9 := Nat.pow_le_pow_right (by omega) (by omega)
    omega
  have e1 : ((t : Int) * ((v : Int) % 128)) = ((v % 128 * 128 ^ i : Nat) : Int) := by
    rw [ht]; push_cast; rw [Int.mul_comm]
  rw [e1]
  have e2 : IntKind.u64.wrap ((v % 128 * 128 ^ i : Nat) : Int) = ((v % 128 * 128 ^ i : Nat) : Int) := by
    rw [IntKind.wrap_u64]; omega
  rw [e2, IntKind.wrap_u64]
  omega

theorem times_ok (t i : Nat) (hi : i ≤ 8) (ht : t = 128 ^ i) : IntKind.u64.wrap ((t : Int) * 128) = ((128 ^ (i + 1) : Nat) : Int) := by
  have h1 : 128 ^ i ≤ 128 ^ 8 := Nat.pow_le_pow_right (by omega) (by omega)
  rw [Nat.pow_succ, ← ht]
  rw [← ht] at h1
  rw [IntKind.wrap_u64]
  omega

theorem drop_at {bs : List UInt8} {s : ByteArray} (hs : s = tx bs) (k : Nat) (h : k < s.size) : ∃ x : UInt8, x.toNat = s[k].toNat ∧ bs.drop k = x :: bs.drop (k + 1) := by
  subst hs
  have hk : k < bs.length := by rw [tx_size] at h; exact h
  exact ⟨bs[k], rfl, List.drop_eq_getElem_cons hk⟩

set_option maxRecDepth 100000 in
set_option maxHeartbeats 400000 in
theorem refget_on (at_ : Nat) (bs : List UInt8) (hn : bs.length ≤ 1073741824) (hat : at_ ≤ bs.length) (w : World) :
    Calls Try.prog 83 #[.string (tx bs), .int .i64 (at_ : Int)] w fun e w' => e = .returned (gres at_ (gr 0 0 (bs.drop at_))) ∧ w = w' := by
  obtain ⟨s, hs⟩ : ∃ s, s = tx bs := ⟨_, rfl⟩
  have hsz : s.size = bs.length := by rw [hs, tx_size]
  rw [← hs]
  obtain ⟨r, hr0⟩ : ∃ r, r = gr 0 0 (bs.drop at_) := ⟨_, rfl⟩
  rw [← hr0]
  have hn' : s.size ≤ 1073741824 := by omega
  have hat' : at_ ≤ s.size := by omega
  have hd1 : decide ((at_ : Int) < 0) = false := decide_eq_false (by omega)
  have hd2 : decide (s.size < at_) = false := decide_eq_false (by omega)
  have HR := Lib.hid hr0
  have HS := Lib.hid hs
  have HSZ := Lib.hid hsz
  clear hr0 hs hsz hn hat
  go_enter Try.func83, Try.ntmps83
  go_wp2
  go_loop [7, 8, 9] (fun acc times idx => QRel at_ r bs acc times idx) (fun _ _ idx => 10 - (intOf idx).toNat)
  case atStart => exact ⟨0, 0, 1, by have := HSZ.out; omega, by omega, rfl, rfl, rfl, rfl, HR.out, by simp⟩
  case round =>
    obtain ⟨i, a, t, hib, hi9, rfl, rfl, rfl, hT, hG, hL⟩ := hrel
    have HG := Lib.hid hG
    have HL := Lib.hid hL
    have HT := Lib.hid hT
    clear hG hL hT
    have hib' : at_ + i ≤ s.size := by have := HSZ.out; omega
    clear hib
    by_cases hlt : at_ + i < s.size
    · obtain ⟨x, hx, hd⟩ := drop_at HS.out (at_ + i) hlt
      obtain ⟨v, hv⟩ : ∃ v, s[at_ + i].toNat = v := ⟨_, rfl⟩
      have hv256 : v < 256 := by rw [← hv]; exact s[at_ + i].toNat_lt
      have HG' : Hid (r = gr i a (x :: bs.drop (at_ + (i + 1)))) := by
        show r = _
        rw [HG.out, hd]; rfl
      have HX : Hid (x.toNat = v) := hx.trans hv
      clear HG hx hd
      have hw1 : IntKind.u64.wrap (v : Int) = (v : Int) := by rw [IntKind.wrap_u64]; omega
      by_cases hA : i = 9 ∧ 1 < v
      · obtain ⟨rfl, h1v⟩ := hA
        have b1 : decide ((1 : Int) < (v : Int)) = true := decide_eq_true (by omega)
        have hr' : Hid (r = (0, 0, 3)) := by
          show r = _
          rw [HG'.out, gr_bad (by rw [HX.out]; omega)]
        clear HG' HX
        go_wp2
        go_ret3
        exact ⟨by rw [hr'.out]; rfl, rfl⟩
      · by_cases hB : v = 0 ∧ 0 < i
        · obtain ⟨rfl, h0i⟩ := hB
          have hr' : Hid (r = (0, 0, 3)) := by
            show r = _
            rw [HG'.out, gr_bad (by rw [HX.out]; omega)]
          clear HG' HX hA
          go_wp2
          all_goals go_ret3
          all_goals exact ⟨by rw [hr'.out]; rfl, rfl⟩
        · have hok : ¬ (i = 9 ∧ 1 < v) ∧ (i = 0 ∨ v ≠ 0) := ⟨hA, by omega⟩
          by_cases h128 : v < 128
          · have hr' : Hid (r = (a + v * 128 ^ i, i + 1, 0)) := by
              show r = _
              rw [HG'.out, gr_last (by rw [HX.out]; exact hok) (by rw [HX.out]; exact h128), HX.out]
            clear HG' HX
            have HOK := Lib.hid hok
            clear hok hA hB
            by_cases h9 : i = 9
            · subst h9
              have h1v : v ≤ 1 := by have := HOK.out.1; omega
              have hv0 : 0 < v := by have := HOK.out.2; omega
              have b1 : decide ((1 : Int) < (v : Int)) = false := decide_eq_false (by omega)
              have b2 : ((v : Int) == 0) = false := by simp; omega
              go_wp2
              go_ret3
              have hacc := acc_ok a t v 9 (by omega) HT.out HL.out (fun h9 => by have := HOK.out.1; omega)
              rw [Nat.mod_eq_of_lt h128] at hacc
              exact ⟨by rw [hacc, hr'.out, gres, gnext]; simp [Int.add_assoc], rfl⟩
            · have b9 : ((i : Int) == 9) = false := by simp; omega
              by_cases h0 : i = 0
              · subst h0
                have hv' : s[at_].toNat = v := hv
                go_wp2
                go_ret3
                have hacc := acc_ok a t v 0 (by omega) HT.out HL.out (fun h9 => by have := HOK.out.1; omega)
                rw [Nat.mod_eq_of_lt h128] at hacc
                exact ⟨by rw [hacc, hr'.out, gres, gnext]; simp, rfl⟩
              · have b2 : ((v : Int) == 0) = false := by have := HOK.out.2; simp; omega
                have h0i : 0 < i := by omega
                go_wp2
                go_ret3
                have hacc := acc_ok a t v i (by omega) HT.out HL.out (fun h9 => by have := HOK.out.1; omega)
                rw [Nat.mod_eq_of_lt h128] at hacc
                exact ⟨by rw [hacc, hr'.out, gres, gnext]; simp [Int.add_assoc], rfl⟩
          · have h0v : 0 < v := by omega
            have hi8 : i ≤ 8 := by have := hok.1; omega
            have b9 : ((i : Int) == 9) = false := by simp; omega
            have HOK := Lib.hid hok
            clear hok hA hB
            have hacc := acc_ok a t v i hi9 HT.out HL.out (fun h9 => by omega)
            have htim := times_ok t i hi8 HT.out
            have HACC := Lib.hid hacc
            have HTIM := Lib.hid htim
            clear hacc htim
            have HG2 : Hid (r = gr (i + 1) (a + v % 128 * 128 ^ i) (bs.drop (at_ + (i + 1)))) := by
              show r = _
              rw [HG'.out, gr_on (by rw [HX.out]; exact HOK.out) (by rw [HX.out]; exact h128), HX.out]
            have HL2 : Hid (a + v % 128 * 128 ^ i < 128 ^ (i + 1)) := by
              show _ < _
              have h1 := HL.out
              have h2 : v % 128 * 128 ^ i ≤ 127 * 128 ^ i := Nat.mul_le_mul_right _ (by omega)
              rw [Nat.pow_succ]; omega
            clear HG' HX
            go_wp2
            rw [HACC.out, HTIM.out]
            exact ⟨⟨i + 1, _, _, by have := HSZ.out; omega, by omega, by go_num, rfl, rfl, rfl, HG2.out, HL2.out⟩, by simp [intOf]; omega⟩
    · have hEnd : at_ + i = s.size := by omega
      have hd : bs.drop (at_ + i) = [] := List.drop_eq_nil_of_le (by have := HSZ.out; omega)
      have hr' : Hid (r = (0, 0, 2)) := by
        show r = _
        rw [HG.out, hd, gr]
      clear hd HG
      have bE : ((at_ : Int) + (i : Int) == (s.size : Int)) = true := by simp; omega
      have HE := Lib.hid hEnd
      clear hEnd hlt
      go_wp2
      go_ret3
      exact ⟨by rw [hr'.out]; rfl, rfl⟩

set_option maxRecDepth 100000 in
set_option maxHeartbeats 400000 in
theorem refget_bad (s : ByteArray) (at_ : Int) (h : at_ < 0 ∨ (s.size : Int) < at_) (w : World) :
    Calls Try.prog 83 #[.string s, .int .i64 at_] w fun e w' => e = .returned (.tuple #[.int .u64 0, .int .i64 0, .int .i64 1]) ∧ w = w' := by
  by_cases h0 : at_ < 0
  · go_enter Try.func83, Try.ntmps83
    go_wp2
    go_ret3
    exact ⟨rfl, rfl⟩
  · have h1 : (s.size : Int) < at_ := by omega
    clear h
    go_enter Try.func83, Try.ntmps83
    go_wp2
    go_ret3
    exact ⟨rfl, rfl⟩

end Go.Proofs.Ytidkahmjjknkmaa

/- The walks of the document's own answers: Put of tephraref02. -/
namespace Go.Proofs.Ytidkahmjjknkmaa
open Go.RowKit Go.Shelf

set_option maxRecDepth 100000 in
set_option maxHeartbeats 400000 in
theorem rbput_any (t : List UInt8) (hbig : t.length ≤ 1073741824) (w : World) :
    Calls Try.prog 54 #[.string (tx t)] w fun e w' => e = .returned (.string (tx (blob t))) ∧ Below w.heap.size w w' := by
  obtain ⟨k, hk⟩ : ∃ k, k = t.length := ⟨_, rfl⟩
  have hv := vb_len k (by unfold top; omega)
  have hadd : ∀ W : World, (Op.stringOp .add (tx (vb k)) (tx t)).run Try.prog W = .ok (.string (tx (blob t))) W := fun W => by
    rw [blob, ← hk]
    exact add_tx W (vb k) t (by omega)
  have hput : Hid (∀ W, Calls Try.prog 28 #[.int .u64 (k : Int)] W fun e w' => e = .returned (.string (tx (vb k))) ∧ Below W.heap.size W w') := fun W => refput_any k (by unfold top; omega) W
  have hsz : (tx t).size = k := by rw [tx_size, hk]
  have hw1 : IntKind.u64.wrap (k : Int) = (k : Int) := by rw [IntKind.wrap_u64]; omega
  clear hv hk
  go_enter Try.func54, Try.ntmps54
  go_wp2_with (go_at_call 28; refine (hput.out _).mono ?_; rintro e w' ⟨rfl, hb⟩)
  go_ret
  exact ⟨rfl, hb⟩

end Go.Proofs.Ytidkahmjjknkmaa

/- The walk of the document's Get of tephraref02: at every text, every place and every most. -/
namespace Go.Proofs.Ytidkahmjjknkmaa
open Go.RowKit Go.Shelf

theorem tx_extract (bs : List UInt8) (i j : Nat) : (tx bs).extract i j = tx ((bs.drop i).take (j - i)) := by
  apply ByteArray.ext
  simp [tx, ByteArray.data_extract, List.extract_toArray, List.extract_eq_take_drop]

set_option maxRecDepth 100000 in
set_option maxHeartbeats 400000 in
theorem rbget_err (s : ByteArray) (at_ most : Int) (e0 : Nat) (he : e0 = 1 ∨ e0 = 2 ∨ e0 = 3) (w : World)
    (h : Calls Try.prog 83 #[.string s, .int .i64 at_] w fun e w' => e = .returned (.tuple #[.int .u64 0, .int .i64 0, .int .i64 (e0 : Int)]) ∧ w = w') :
    Calls Try.prog 84 #[.string s, .int .i64 at_, .int .i64 most] w fun e w' => e = .returned (bres ([], 0, e0)) ∧ w = w' := by
  have H := Lib.hid h
  clear h
  rcases he with rfl | rfl | rfl
  all_goals
    go_enter Try.func84, Try.ntmps84
    go_wp2_with (go_at_call 83; refine H.out.mono ?_; rintro e w' ⟨rfl, rfl⟩)
    go_ret3
    exact ⟨rfl, rfl⟩

set_option maxRecDepth 100000 in
set_option maxHeartbeats 400000 in
theorem rbget_go (at_ m k : Nat) (most : Int) (bs : List UInt8) (hn : bs.length ≤ 1073741824) (hmost : most < 9223372036854775808) (hm : m < top) (hk : 1 ≤ k) (hkn : at_ + k ≤ bs.length) (hg : gr 0 0 (bs.drop at_) = (m, k, 0)) (w : World)
    (h : Calls Try.prog 83 #[.string (tx bs), .int .i64 (at_ : Int)] w fun e w' => e = .returned (.tuple #[.int .u64 (m : Int), .int .i64 ((at_ + k : Nat) : Int), .int .i64 0]) ∧ w = w') :
    Calls Try.prog 84 #[.string (tx bs), .int .i64 (at_ : Int), .int .i64 most] w fun e w' => e = .returned (bres (bg most at_ bs)) ∧ w = w' := by
  obtain ⟨f, hf⟩ : ∃ f, f = at_ + k := ⟨_, rfl⟩
  rw [← hf] at h hkn
  obtain ⟨n, hl⟩ : ∃ n, n = bs.length := ⟨_, rfl⟩
  rw [← hl] at hkn hn
  have hf1 : 1 ≤ f := by omega
  have hM : (most < 0 ∧ max most 0 = 0) ∨ (¬ most < 0 ∧ max most 0 = most) := by omega
  obtain ⟨M, hMM⟩ : ∃ M, M = max most 0 := ⟨_, rfl⟩
  have hsz0 : (tx bs).size = n := by rw [tx_size, hl]
  have hex0 := tx_extract bs f (f + m)
  obtain ⟨s, hs⟩ : ∃ s, s = tx bs := ⟨_, rfl⟩
  rw [← hs] at h hsz0 hex0 ⊢
  have H := Lib.hid h
  have HF := Lib.hid hf
  have HG := Lib.hid hg
  have HL := Lib.hid hl
  have HM := Lib.hid hm
  have hw : IntKind.u64.wrap M = M := by rw [IntKind.wrap_u64]; omega
  have hw2 : IntKind.u64.wrap (n : Int) = (n : Int) := by rw [IntKind.wrap_u64]; omega
  clear h hf hg hl hm hs
  have HMM := Lib.hid hMM
  rw [← hMM] at hM
  clear hMM
  by_cases h1 : M < (m : Int)
  · have hres : Hid (bg most at_ bs = ([], 0, 5)) := bg_limit HG.out (by rw [← HMM.out]; exact h1)
    clear hex0
    rcases hM with ⟨hM0, hM1⟩ | ⟨hM0, hM1⟩
    all_goals
      subst hM1
      clear HMM
      go_enter Try.func84, Try.ntmps84
      go_wp2_with (go_at_call 83; refine H.out.mono ?_; rintro e w' ⟨rfl, rfl⟩)
      go_ret3
      exact ⟨by rw [hres.out]; rfl, rfl⟩
  · by_cases h2 : n - f < m
    · have hres : Hid (bg most at_ bs = ([], 0, 2)) := bg_short HG.out (by rw [← HMM.out]; exact h1) (by rw [← HL.out, ← HF.out]; exact h2)
      clear hex0
      rcases hM with ⟨hM0, hM1⟩ | ⟨hM0, hM1⟩
      · exact absurd h2 (by omega)
      · subst hM1
        clear HMM
        by_cases h3 : n < m
        · go_enter Try.func84, Try.ntmps84
          go_wp2_with (go_at_call 83; refine H.out.mono ?_; rintro e w' ⟨rfl, rfl⟩)
          go_ret3
          exact ⟨by rw [hres.out]; rfl, rfl⟩
        · have hw3 : IntKind.i64.wrap (m : Int) = (m : Int) := by rw [IntKind.wrap_i64]; omega
          have hd : decide ((n : Int) < (f : Int) + (m : Int)) = true := decide_eq_true (by omega)
          go_enter Try.func84, Try.ntmps84
          go_wp2_with (go_at_call 83; refine H.out.mono ?_; rintro e w' ⟨rfl, rfl⟩)
          go_ret3
          exact ⟨by rw [hres.out]; rfl, rfl⟩
    · have hres : Hid (bg most at_ bs = ((bs.drop f).take m, f + m, 0)) := by
        have := bg_ok HG.out (by rw [← HMM.out]; exact h1) (by rw [← HL.out, ← HF.out]; exact h2)
        rwa [← HF.out] at this
      have hw3 : IntKind.i64.wrap (m : Int) = (m : Int) := by rw [IntKind.wrap_i64]; omega
      have hle : f + m ≤ n := by omega
      obtain ⟨nx, hnx⟩ : ∃ nx, nx = f + m := ⟨_, rfl⟩
      have hnx' : (f : Int) + (m : Int) = (nx : Int) := by omega
      have hnm : ¬ n < m := by omega
      have hsub : f + m - f = m := by omega
      rw [hsub, ← hnx] at hex0
      rw [← hnx] at hle hres
      have hfn : f ≤ nx := by omega
      clear hsub
      have HNX := Lib.hid hnx
      clear hnx
      rcases hM with ⟨hM0, hM1⟩ | ⟨hM0, hM1⟩
      all_goals
        subst hM1
        clear HMM
        go_enter Try.func84, Try.ntmps84
        go_wp2_with (go_at_call 83; refine H.out.mono ?_; rintro e w' ⟨rfl, rfl⟩)
        go_ret3
        exact ⟨by rw [hres.out]; rfl, rfl⟩

/-- **The document's Get, at every text, every place of it and every most.** -/
theorem rbget_any (at_ : Nat) (most : Int) (bs : List UInt8) (hn : bs.length ≤ 1073741824) (hmost : most < 9223372036854775808) (hat : at_ ≤ bs.length) (w : World) :
    Calls Try.prog 84 #[.string (tx bs), .int .i64 (at_ : Int), .int .i64 most] w fun e w' => e = .returned (bres (bg most at_ bs)) ∧ w = w' := by
  have h := refget_on at_ bs hn hat w
  rcases gr_three (bs.drop at_) 0 0 with hg | hg | ⟨m, k, hg⟩
  · rw [hg] at h
    have hb : bg most at_ bs = ([], 0, 2) := bg_err hg (by decide)
    rw [hb]
    exact rbget_err (tx bs) at_ most 2 (by omega) w h
  · rw [hg] at h
    have hb : bg most at_ bs = ([], 0, 3) := bg_err hg (by decide)
    rw [hb]
    exact rbget_err (tx bs) at_ most 3 (by omega) w h
  · obtain ⟨hm, hk1, hk2, _⟩ := gr_ok0 hg
    rw [List.length_drop] at hk2
    rw [hg] at h
    exact rbget_go at_ m k most bs hn hmost hm hk1 (by omega) hg w h

theorem rbget_bad (bs : List UInt8) (at_ most : Int) (h : at_ < 0 ∨ (bs.length : Int) < at_) (w : World) :
    Calls Try.prog 84 #[.string (tx bs), .int .i64 at_, .int .i64 most] w fun e w' => e = .returned (bres ([], 0, 1)) ∧ w = w' :=
  rbget_err (tx bs) at_ most 1 (by omega) w (refget_bad (tx bs) at_ (by rw [tx_size]; exact h) w)

end Go.Proofs.Ytidkahmjjknkmaa
