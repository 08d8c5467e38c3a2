/- Texts of one proof, one behind the other. -/
import Derived.Deep.RegionWith
import Derived.RegionTactic
import Derived.Test.YtfidfhajnobonaaMg4

/- The walks of the document's own answers: Put and Get of tephraref01. -/
namespace Go.Proofs.Ytfidfhajnobonaa
open Go.RowKit Go.Shelf

set_option maxRecDepth 100000 in
set_option maxHeartbeats 400000 in
theorem refput_lt (n : Nat) (h : n < 128) (w : World) :
    Calls Try.prog 29 #[.int .u64 (n : Int)] w fun e w' => e = .returned (.string (tx (vb n))) ∧ Below w.heap.size w w' := by
  have hcv : (convert 44 9 (.slice (some ⟨w.heap.size, 0, none⟩) 1 1)).run Try.prog (w.alloc (.cells #[.int .u8 (n : Int)] 5)) = .ok (.string (tx [UInt8.ofNat n])) (w.alloc (.cells #[.int .u8 (n : Int)] 5)) := by
    rw [← bv_ofNat (show n < 256 by omega)]
    exact conv_reads Try.underlying44 Try.underlying5 Try.underlying9 (reads_one w 5 _)
  rw [vb_lt h]
  go_enter Try.func29, Try.ntmps29
  go_wp2
  go_ret
  exact ⟨rfl, (Below.refl _ _).alloc (Nat.le_refl _) _⟩

set_option maxRecDepth 100000 in
set_option maxHeartbeats 400000 in
theorem refput_ge (n : Nat) (h : ¬ n < 128) (hlen : (vb (n / 128)).length ≤ 10) (hw : IntKind.u64.wrap ((n / 128 : Nat) : Int) = ((n / 128 : Nat) : Int)) (ih : ∀ w, Calls Try.prog 29 #[.int .u64 ((n / 128 : Nat) : Int)] w fun e w' => e = .returned (.string (tx (vb (n / 128)))) ∧ Below w.heap.size w w') (w : World) :
    Calls Try.prog 29 #[.int .u64 (n : Int)] w fun e w' => e = .returned (.string (tx (vb n))) ∧ Below w.heap.size w w' := by
  rw [vb_ge (by omega)]
  obtain ⟨r, hr⟩ : ∃ r, r = n % 128 := ⟨_, rfl⟩
  obtain ⟨q, hq⟩ : ∃ q, q = n / 128 := ⟨_, rfl⟩
  have hr128 : r < 128 := by omega
  have a1 : (n : Int).tmod 128 = (r : Int) := by rw [Int.tmod_eq_emod_of_nonneg (by omega)]; omega
  have a2 : IntKind.u8.wrap (r : Int) = (r : Int) := by rw [IntKind.wrap_u8]; omega
  have a3 : IntKind.u8.wrap ((r : Int) + 128) = (r : Int) + 128 := by rw [IntKind.wrap_u8]; omega
  have a4 : (n : Int) / 128 = (q : Int) := by omega
  rw [← hq] at ih hw hlen ⊢
  rw [← hr]
  have IH := Lib.hid ih
  clear ih
  obtain ⟨x, hx⟩ : ∃ x, x = UInt8.ofNat (r + 128) := ⟨_, rfl⟩
  have hbx : bv x = .int .u8 ((r : Int) + 128) := by rw [hx, bv_ofNat (by omega)]; rfl
  have hone : ∀ W : World, Reads (W.alloc (.cells #[.int .u8 ((r : Int) + 128)] 5)) (W.heap.size + 1) 1 (some ⟨W.heap.size, 0, none⟩) 1 ([x].map bv) := by
    intro W
    rw [← hbx]
    exact reads_one W 5 x
  have HONE := Lib.hid hone
  clear hone
  have hcvA : ∀ W : World, (convert 44 9 (.slice (some ⟨W.heap.size, 0, none⟩) 1 1)).run Try.prog (W.alloc (.cells #[.int .u8 ((r : Int) + 128)] 5)) = .ok (.string (tx [x])) (W.alloc (.cells #[.int .u8 ((r : Int) + 128)] 5)) := by
    intro W
    exact conv_reads Try.underlying44 Try.underlying5 Try.underlying9 (HONE.out W)
  have hcvB : ∀ W : World, (convert 44 9 (.slice (some ⟨W.heap.size, 0, none⟩) 1 1)).run Try.prog (W.alloc (.cells #[.int .u8 ((r : Int) + 128)] 5)).drew = .ok (.string (tx [x])) (W.alloc (.cells #[.int .u8 ((r : Int) + 128)] 5)).drew := by
    intro W
    exact conv_reads Try.underlying44 Try.underlying5 Try.underlying9 (HONE.out W).drew
  have hadd : ∀ W : World, (Op.stringOp .add (tx [x]) (tx (vb q))).run Try.prog W = .ok (.string (tx (x :: vb q))) W := fun W => add_tx W [x] (vb q) (by simp; omega)
  rw [← hx]
  have HBX := Lib.hid hbx
  have HX := Lib.hid hx
  have HR := Lib.hid hr
  have HQ := Lib.hid hq
  clear hbx hx hr hq
  go_enter Try.func29, Try.ntmps29
  go_wp2
  go_region_with (go_at_call 29; refine (IH.out _).mono ?_; rintro e w' ⟨rfl, hb⟩; first | (have hcvC : (convert 44 9 (.slice (some ⟨w.heap.size, 0, none⟩) 1 1)).run Try.prog w' = .ok (.string (tx [x])) w' := conv_reads Try.underlying44 Try.underlying5 Try.underlying9 ((HONE.out w).drew.below (hb.mono (by simp)))) | skip)
  all_goals
    go_wp2
    go_ret
    first
      | exact ⟨rfl, (((Below.refl _ w).alloc (Nat.le_refl _) _).drew).trans (hb.mono (by simp))⟩
      | exact ⟨rfl, ((Below.refl _ w).drew.trans hb).alloc (by have := hb.size; simpa using this) _⟩

theorem refput_pow : ∀ (k n : Nat), n < 128 ^ (k + 1) → n < top → ∀ w : World,
    Calls Try.prog 29 #[.int .u64 (n : Int)] w fun e w' => e = .returned (.string (tx (vb n))) ∧ Below w.heap.size w w'
  | 0, n, h, _, w => refput_lt n (by simpa using h) w
  | k + 1, n, h, ht, w => by
    by_cases h1 : n < 128
    · exact refput_lt n h1 w
    · have hq : n / 128 < 128 ^ (k + 1) := by
        rw [Nat.pow_succ] at h
        exact Nat.div_lt_of_lt_mul (by rw [Nat.mul_comm]; exact h)
      have hqt : n / 128 < top := by omega
      exact refput_ge n h1 (vb_len _ hqt) (by rw [IntKind.wrap_u64]; unfold top at hqt; omega) (refput_pow k (n / 128) hq hqt) w

/-- **The document's Put, at every number of 64 bits.** -/
theorem refput_any (n : Nat) (h : n < top) (w : World) : Calls Try.prog 29 #[.int .u64 (n : Int)] w fun e w' => e = .returned (.string (tx (vb n))) ∧ Below w.heap.size w w' :=
  refput_pow 9 n (by unfold top at h; have : (128 : Nat) ^ (9 + 1) = 1180591620717411303424 := by decide
                     omega) h w

end Go.Proofs.Ytfidfhajnobonaa

/- The walk of the document's Get: at every text and every place. -/
namespace Go.Proofs.Ytfidfhajnobonaa
open Go.RowKit Go.Shelf

/-- At the head of a round of the document's loop. -/
def QRel (at_ : Nat) (r : Nat × Nat × Nat) (bs : List UInt8) (acc times idx : Value) : Prop :=
  ∃ i a t : Nat, at_ + i ≤ bs.length ∧ i ≤ 9 ∧ idx = .int .i64 (i : Int) ∧ acc = .int .u64 (a : Int) ∧ times = .int .u64 (t : Int) ∧ t = 128 ^ i ∧ r = gr i a (bs.drop (at_ + i)) ∧ a < 128 ^ i

theorem acc_ok (a t v i : Nat) (hi : i ≤ 9) (ht : t = 128 ^ i) (ha : a < 128 ^ i) (hv : i = 9 → v ≤ 1) :
    IntKind.u64.wrap ((a : Int) + IntKind.u64.wrap ((t : Int) * ((v : Int) % 128))) = ((a + v % 128 * 128 ^ i : Nat) : Int) := by
  have hx : v % 128 * 128 ^ i < 9223372036854775809 := by
    by_cases h9 : i = 9
    · subst h9
      have := hv rfl
      have h2 : v % 128 * 128 ^ 9 ≤ 1 * 128 ^ 9 := Nat.mul_le_mul_right _ (by omega)
      omega
    · have h1 : 128 ^ i ≤ 128 ^ 8 := Nat.pow_le_pow_right (by omega) (by omega)
      have h2 : v % 128 * 128 ^ i ≤ 127 * 128 ^ 8 := Nat.mul_le_mul (by omega) h1
      omega
  have ha2 : a < 9223372036854775808 := by
    have h1 : 128 ^ i ≤ 128 ^ 9 := Nat.pow_le_pow_right (by omega) (by omega)
    omega
  have e1 : ((t : Int) * ((v : Int) % 128)) = ((v % 128 * 128 ^ i : Nat) : Int) := by
    rw [ht]; push_cast; rw [Int.mul_comm]
  rw [e1]
  have e2 : IntKind.u64.wrap ((v % 128 * 128 ^ i : Nat) : Int) = ((v % 128 * 128 ^ i : Nat) : Int) := by
    rw [IntKind.wrap_u64]; omega
  rw [e2, IntKind.wrap_u64]
  omega

theorem times_ok (t i : Nat) (hi : i ≤ 8) (ht : t = 128 ^ i) : IntKind.u64.wrap ((t : Int) * 128) = ((128 ^ (i + 1) : Nat) : Int) := by
  have h1 : 128 ^ i ≤ 128 ^ 8 := Nat.pow_le_pow_right (by omega) (by omega)
  rw [Nat.pow_succ, ← ht]
  rw [← ht] at h1
  rw [IntKind.wrap_u64]
  omega

theorem drop_at {bs : List UInt8} {s : ByteArray} (hs : s = tx bs) (k : Nat) (h : k < s.size) : ∃ x : UInt8, x.toNat = s[k].toNat ∧ bs.drop k = x :: bs.drop (k + 1) := by
  subst hs
  have hk : k < bs.length := by rw [tx_size] at h; exact h
  exact ⟨bs[k], rfl, List.drop_eq_getElem_cons hk⟩

set_option maxRecDepth 100000 in
set_option maxHeartbeats 400000 in
theorem refget_on (at_ : Nat) (bs : List UInt8) (hn : bs.length ≤ 1073741824) (hat : at_ ≤ bs.length) (w : World) :
    Calls Try.prog 84 #[.string (tx bs), .int .i64 (at_ : Int)] w fun e w' => e = .returned (gres at_ (gr 0 0 (bs.drop at_))) ∧ w = w' := by
  obtain ⟨s, hs⟩ : ∃ s, s = tx bs := ⟨_, rfl⟩
  have hsz : s.size = bs.length := by rw [hs, tx_size]
  rw [← hs]
  obtain ⟨r, hr0⟩ : ∃ r, r = gr 0 0 (bs.drop at_) := ⟨_, rfl⟩
  rw [← hr0]
  have hn' : s.size ≤ 1073741824 := by omega
  have hat' : at_ ≤ s.size := by omega
  have hd1 : decide ((at_ : Int) < 0) = false := decide_eq_false (by omega)
  have hd2 : decide (s.size < at_) = false := decide_eq_false (by omega)
  have HR := Lib.hid hr0
  have HS := Lib.hid hs
  have HSZ := Lib.hid hsz
  clear hr0 hs hsz hn hat
  go_enter Try.func84, Try.ntmps84
  go_wp2
  go_loop [7, 8, 9] (fun acc times idx => QRel at_ r bs acc times idx) (fun _ _ idx => 10 - (intOf idx).toNat)
  case atStart => exact ⟨0, 0, 1, by have := HSZ.out; omega, by omega, rfl, rfl, rfl, rfl, HR.out, by simp⟩
  case round =>
    obtain ⟨i, a, t, hib, hi9, rfl, rfl, rfl, hT, hG, hL⟩ := hrel
    have HG := Lib.hid hG
    have HL := Lib.hid hL
    have HT := Lib.hid hT
    clear hG hL hT
    have hib' : at_ + i ≤ s.size := by have := HSZ.out; omega
    clear hib
    by_cases hlt : at_ + i < s.size
    · obtain ⟨x, hx, hd⟩ := drop_at HS.out (at_ + i) hlt
      obtain ⟨v, hv⟩ : ∃ v, s[at_ + i].toNat = v := ⟨_, rfl⟩
      have hv256 : v < 256 := by rw [← hv]; exact s[at_ + i].toNat_lt
      have HG' : Hid (r = gr i a (x :: bs.drop (at_ + (i + 1)))) := by
        show r = _
        rw [HG.out, hd]; rfl
      have HX : Hid (x.toNat = v) := hx.trans hv
      clear HG hx hd
      have hw1 : IntKind.u64.wrap (v : Int) = (v : Int) := by rw [IntKind.wrap_u64]; omega
      by_cases hA : i = 9 ∧ 1 < v
      · obtain ⟨rfl, h1v⟩ := hA
        have b1 : decide ((1 : Int) < (v : Int)) = true := decide_eq_true (by omega)
        have hr' : Hid (r = (0, 0, 3)) := by
          show r = _
          rw [HG'.out, gr_bad (by rw [HX.out]; omega)]
        clear HG' HX
        go_wp2
        go_ret3
        exact ⟨by rw [hr'.out]; rfl, rfl⟩
      · by_cases hB : v = 0 ∧ 0 < i
        · obtain ⟨rfl, h0i⟩ := hB
          have hr' : Hid (r = (0, 0, 3)) := by
            show r = _
            rw [HG'.out, gr_bad (by rw [HX.out]; omega)]
          clear HG' HX hA
          go_wp2
          all_goals go_ret3
          all_goals exact ⟨by rw [hr'.out]; rfl, rfl⟩
        · have hok : ¬ (i = 9 ∧ 1 < v) ∧ (i = 0 ∨ v ≠ 0) := ⟨hA, by omega⟩
          by_cases h128 : v < 128
          · have hr' : Hid (r = (a + v * 128 ^ i, i + 1, 0)) := by
              show r = _
              rw [HG'.out, gr_last (by rw [HX.out]; exact hok) (by rw [HX.out]; exact h128), HX.out]
            clear HG' HX
            have HOK := Lib.hid hok
            clear hok hA hB
            by_cases h9 : i = 9
            · subst h9
              have h1v : v ≤ 1 := by have := HOK.out.1; omega
              have hv0 : 0 < v := by have := HOK.out.2; omega
              have b1 : decide ((1 : Int) < (v : Int)) = false := decide_eq_false (by omega)
              have b2 : ((v : Int) == 0) = false := by simp; omega
              go_wp2
              go_ret3
              have hacc := acc_ok a t v 9 (by omega) HT.out HL.out (fun h9 => by have := HOK.out.1; omega)
              rw [Nat.mod_eq_of_lt h128] at hacc
              exact ⟨by rw [hacc, hr'.out, gres, gnext]; simp [Int.add_assoc], rfl⟩
            · have b9 : ((i : Int) == 9) = false := by simp; omega
              by_cases h0 : i = 0
              · subst h0
                have hv' : s[at_].toNat = v := hv
                go_wp2
                go_ret3
                have hacc := acc_ok a t v 0 (by omega) HT.out HL.out (fun h9 => by have := HOK.out.1; omega)
                rw [Nat.mod_eq_of_lt h128] at hacc
                exact ⟨by rw [hacc, hr'.out, gres, gnext]; simp, rfl⟩
              · have b2 : ((v : Int) == 0) = false := by have := HOK.out.2; simp; omega
                have h0i : 0 < i := by omega
                go_wp2
                go_ret3
                have hacc := acc_ok a t v i (by omega) HT.out HL.out (fun h9 => by have := HOK.out.1; omega)
                rw [Nat.mod_eq_of_lt h128] at hacc
                exact ⟨by rw [hacc, hr'.out, gres, gnext]; simp [Int.add_assoc], rfl⟩
          · have h0v : 0 < v := by omega
            have hi8 : i ≤ 8 := by have := hok.1; omega
            have b9 : ((i : Int) == 9) = false := by simp; omega
            have HOK := Lib.hid hok
            clear hok hA hB
            have hacc := acc_ok a t v i hi9 HT.out HL.out (fun h9 => by omega)
            have htim := times_ok t i hi8 HT.out
            have HACC := Lib.hid hacc
            have HTIM := Lib.hid htim
            clear hacc htim
            have HG2 : Hid (r = gr (i + 1) (a + v % 128 * 128 ^ i) (bs.drop (at_ + (i + 1)))) := by
              show r = _
              rw [HG'.out, gr_on (by rw [HX.out]; exact HOK.out) (by rw [HX.out]; exact h128), HX.out]
            have HL2 : Hid (a + v % 128 * 128 ^ i < 128 ^ (i + 1)) := by
              show _ < _
              have h1 := HL.out
              have h2 : v % 128 * 128 ^ i ≤ 127 * 128 ^ i := Nat.mul_le_mul_right _ (by omega)
              rw [Nat.pow_succ]; omega
            clear HG' HX
            go_wp2
            rw [HACC.out, HTIM.out]
            exact ⟨⟨i + 1, _, _, by have := HSZ.out; omega, by omega, by go_num, rfl, rfl, rfl, HG2.out, HL2.out⟩, by simp [intOf]; omega⟩
    · have hEnd : at_ + i = s.size := by omega
      have hd : bs.drop (at_ + i) = [] := List.drop_eq_nil_of_le (by have := HSZ.out; omega)
      have hr' : Hid (r = (0, 0, 2)) := by
        show r = _
        rw [HG.out, hd, gr]
      clear hd HG
      have bE : ((at_ : Int) + (i : Int) == (s.size : Int)) = true := by simp; omega
      have HE := Lib.hid hEnd
      clear hEnd hlt
      go_wp2
      go_ret3
      exact ⟨by rw [hr'.out]; rfl, rfl⟩

set_option maxRecDepth 100000 in
set_option maxHeartbeats 400000 in
theorem refget_bad (s : ByteArray) (at_ : Int) (h : at_ < 0 ∨ (s.size : Int) < at_) (w : World) :
    Calls Try.prog 84 #[.string s, .int .i64 at_] w fun e w' => e = .returned (.tuple #[.int .u64 0, .int .i64 0, .int .i64 1]) ∧ w = w' := by
  by_cases h0 : at_ < 0
  · go_enter Try.func84, Try.ntmps84
    go_wp2
    go_ret3
    exact ⟨rfl, rfl⟩
  · have h1 : (s.size : Int) < at_ := by omega
    clear h
    go_enter Try.func84, Try.ntmps84
    go_wp2
    go_ret3
    exact ⟨rfl, rfl⟩

end Go.Proofs.Ytfidfhajnobonaa

/- The walks of the document's own answers: Put of tephraref02. -/
namespace Go.Proofs.Ytfidfhajnobonaa
open Go.RowKit Go.Shelf

set_option maxRecDepth 100000 in
set_option maxHeartbeats 400000 in
theorem rbput_any (t : List UInt8) (hbig : t.length ≤ 1073741824) (w : World) :
    Calls Try.prog 55 #[.string (tx t)] w fun e w' => e = .returned (.string (tx (blob t))) ∧ Below w.heap.size w w' := by
  obtain ⟨k, hk⟩ : ∃ k, k = t.length := ⟨_, rfl⟩
  have hv := vb_len k (by unfold top; omega)
  have hadd : ∀ W : World, (Op.stringOp .add (tx (vb k)) (tx t)).run Try.prog W = .ok (.string (tx (blob t))) W := fun W => by
    rw [blob, ← hk]
    exact add_tx W (vb k) t (by omega)
  have hput : Hid (∀ W, Calls Try.prog 29 #[.int .u64 (k : Int)] W fun e w' => e = .returned (.string (tx (vb k))) ∧ Below W.heap.size W w') := fun W => refput_any k (by unfold top; omega) W
  have hsz : (tx t).size = k := by rw [tx_size, hk]
  have hw1 : IntKind.u64.wrap (k : Int) = (k : Int) := by rw [IntKind.wrap_u64]; omega
  clear hv hk
  go_enter Try.func55, Try.ntmps55
  go_wp2_with (go_at_call 29; refine (hput.out _).mono ?_; rintro e w' ⟨rfl, hb⟩)
  go_ret
  exact ⟨rfl, hb⟩

end Go.Proofs.Ytfidfhajnobonaa

/- The document's May. -/
namespace Go.Proofs.Ytfidfhajnobonaa
open Go.RowKit

theorem nodup_snoc {t : List UInt8} {ns : List (List UInt8)} {s : List UInt8} : (t :: (ns ++ [s])).Nodup ↔ (t :: ns).Nodup ∧ s ≠ t ∧ s ∉ ns := by
  rw [List.nodup_cons, List.nodup_cons, List.nodup_append]
  simp only [List.mem_append, List.mem_singleton, List.nodup_cons, List.not_mem_nil, not_false_iff, List.nodup_nil, and_true, true_and]
  constructor
  · rintro ⟨h1, h2, h3⟩
    exact ⟨⟨fun h => h1 (.inl h), h2⟩, fun h => h1 (.inr h.symm), fun h => h3 s h s rfl rfl⟩
  · rintro ⟨⟨h1, h2⟩, h3, h4⟩
    refine ⟨fun h => ?_, h2, fun a ha b hb e => ?_⟩
    · rcases h with h | h
      · exact h1 h
      · exact h3 h.symm
    · subst hb; subst e; exact h4 ha
theorem nodup_take {t : List UInt8} {ns : List (List UInt8)} (h : (t :: ns).Nodup) (i : Nat) : (t :: ns.take i).Nodup := by
  rw [List.nodup_cons] at h ⊢
  exact ⟨fun hm => h.1 (List.mem_of_mem_take hm), h.2.sublist (List.take_sublist _ _)⟩

def OmRel (v : Int) (w : World) (o : Obj) (t : List UInt8) (l : List Dp) (idx : Value) (wr : World) : Prop :=
  ∃ i : Nat, i ≤ l.length ∧ idx = .int .i64 (i : Int) ∧ (∀ d ∈ l.take i, DepP v d) ∧ (t :: (names l).take i).Nodup ∧ Below w.heap.size w wr ∧ wr.heap[w.heap.size]? = some o ∧ w.heap.size < wr.heap.size
def ImRel (w : World) (o x : Obj) (b i : Nat) (s : List UInt8) (l : List Dp) (idx : Value) (wr : World) : Prop :=
  ∃ j : Nat, j ≤ i ∧ idx = .int .i64 (j : Int) ∧ s ∉ (names l).take j ∧ Below w.heap.size w wr ∧ wr.heap[w.heap.size]? = some o ∧ w.heap.size < wr.heap.size ∧ wr.heap[b]? = some x ∧ b < wr.heap.size

end Go.Proofs.Ytfidfhajnobonaa

/- The document's May: its loops. -/
namespace Go.Proofs.Ytfidfhajnobonaa
open Go.RowKit

set_option maxRecDepth 100000 in
set_option maxHeartbeats 2000000 in
theorem rmay_l1 (t : List UInt8) (u o : Int) (A : Option Addr) (n c : Nat) (l : List Dp) (hn : n ≤ 1000) (hfit : Fits ⟨1, t, u, o, 0, []⟩ l) (hq : isName t = true) (h16 : n ≤ 16) (w : World) (h : Reads w w.heap.size 3 A n (dps l)) :
    Calls Try.prog 25 #[.int .i64 1, rcv ⟨1, t, u, o, 0, []⟩ A n c] w fun e w' => Tells (MayP 1 ⟨1, t, u, o, 0, []⟩ l) e ∧ Below w.heap.size w w' := by
  have HL : Hid (l.length = n) := by have := h.1; rw [dps_len] at this; show _ = _; omega
  have H1 := Lib.hid h
  have H0 := Lib.hid (one_new w (.cells (rcells ⟨1, t, u, o, 0, []⟩ A n c) 26))
  have HB0 := Lib.hid ((Below.refl w.heap.size w).alloc (Nat.le_refl _) (.cells (rcells ⟨1, t, u, o, 0, []⟩ A n c) 26))
  have HS0 : Hid (w.heap.size < (w.alloc (.cells (rcells ⟨1, t, u, o, 0, []⟩ A n c) 26)).heap.size) := by show w.heap.size < _; simp
  have hst := tx_size0 t
  have hsg := tx_size0 []
  obtain ⟨hft, hfg, hfd⟩ := hfit
  have HFD := Lib.hid hfd
  have HNAME := Lib.hid (rname_any t)
  have q0 := at_cell (i := 0) H0.out rfl
  have q1 := at_cell (i := 1) H0.out rfl
  have q2 := at_cell (i := 2) H0.out rfl
  have q3 := at_cell (i := 3) H0.out rfl
  have q4 := at_cell (i := 4) H0.out rfl
  have q5 := at_cell (i := 5) H0.out rfl
  have q6 := at_cell (i := 6) H0.out rfl
  unfold maxLen at hft hfg
  simp only at hft hfg
  clear h hfd
  unfold rcells at *
  unfold rcv rsv at *
  rw [hq] at HNAME
  have d16 : decide ((n : Int) > 16) = false := decide_eq_false (by omega)
  have he : (tx ([] : List UInt8)).toList = [] := by simp [tx]
  have HIFF : Hid (MayP 1 ⟨1, t, u, o, 0, []⟩ l ↔ DepsP 1 ⟨1, t, u, o, 0, []⟩ l) := ⟨fun h => by rcases h.2.2.2 with h | h; exact h.2.2.2; exact absurd h.1 (by simp), fun h => ⟨by omega, by omega, hq, .inl ⟨rfl, .inl rfl, .inl rfl, h⟩⟩⟩
  have H16 : Hid (n ≤ 16) := h16
  go_enter Try.func25, Try.ntmps25
  go_wp2_with (go_at_call 54; refine (HNAME.out _).mono ?_; rintro e w2 ⟨rfl, rfl⟩)
  go_loopw [5] (fun idx wr => OmRel 1 w (.cells #[.int .i64 1, .string (tx t), .int .u64 u, .slice A n c, .int .u64 o, .int .u64 0, .string (tx [])] 26) t l idx wr) (fun idx wr => n - (intOf idx).toNat)
  case atStart => exact ⟨0, by omega, rfl, by simp, by simp, HB0.out, H0.out, HS0.out⟩
  case round =>
    obtain ⟨i, hi, rfl, hok, hnd, hb, hbx, hz⟩ := hrel
    obtain ⟨wo, hwo⟩ : ∃ x, x = wr := ⟨wr, rfl⟩
    subst hwo
    have HOK := Lib.hid hok
    have HND := Lib.hid hnd
    have HBR := Lib.hid hb
    have HBX := Lib.hid hbx
    have HZ := Lib.hid hz
    rw [HL.out] at hi
    have b1 := at_cell (i := 1) hbx rfl
    have b3 := at_cell (i := 3) hbx rfl
    by_cases hlt : i < n
    · obtain ⟨y, hy⟩ : ∃ y, l[i]? = some y := ⟨_, List.getElem?_eq_getElem (by rw [HL.out]; exact hlt)⟩
      obtain ⟨ad, rfl, _, hcx⟩ := (H1.out.below hb).2 (by omega)
      obtain ⟨x0, x1, x2⟩ := dps_at l i y hy
      have k0 := hcx _ _ x0
      have k1 := hcx _ _ x1
      have k2 := hcx _ _ x2
      rw [add_one] at k1
      rw [add_two] at k2
      have hnb := one_new wo (.cells #[.string (tx y.name), .int .u64 y.hash, .bool y.order] 56)
      have p0 := at_cell (i := 0) hnb rfl
      have p2 := at_cell (i := 2) hnb rfl
      have hbn := Lib.hid (hb.alloc (by omega) (.cells #[.string (tx y.name), .int .u64 y.hash, .bool y.order] 56))
      have hbxn := Lib.hid ((Below.heap_alloc wo (.cells #[.string (tx y.name), .int .u64 y.hash, .bool y.order] 56) w.heap.size hz).trans hbx)
      have hzn : Hid (w.heap.size < (wo.alloc (.cells #[.string (tx y.name), .int .u64 y.hash, .bool y.order] 56)).heap.size) := by show w.heap.size < _; simp; omega
      have HNB := Lib.hid hnb
      have HNBZ : Hid (wo.heap.size < (wo.alloc (.cells #[.string (tx y.name), .int .u64 y.hash, .bool y.order] 56)).heap.size) := by show _ < _; simp
      have c1 := (World.cell?_alloc_lt wo (.cells #[.string (tx y.name), .int .u64 y.hash, .bool y.order] 56) ⟨w.heap.size, 1, none⟩ hz).trans b1
      have hname := Lib.hid (rname_any y.name)
      have hi0 : (0 : Int) ≤ (i : Int) := by omega
      have hi1 : (i : Int) < (n : Int) := by omega
      have HNM : Hid ((names l)[i]? = some y.name) := by show _ = _; unfold names; rw [List.getElem?_map, hy]; rfl
      have HIN : Hid (DepP 1 y → ∀ d ∈ l.take (i + 1), DepP 1 d) := fun hp d hd => by
        rw [List.take_add_one, hy, List.mem_append] at hd
        rcases hd with hd | hd
        · exact HOK.out d hd
        · simp at hd; subst hd; exact hp
      have HOUT : Hid (¬ DepP 1 y → ¬ MayP 1 ⟨1, t, u, o, 0, []⟩ l) := fun hp hd => hp ((HIFF.out.1 hd).2.1 y (List.mem_of_getElem? hy))
      have HDUP : Hid (y.name = t ∨ y.name ∈ (names l).take i → ¬ MayP 1 ⟨1, t, u, o, 0, []⟩ l) := fun hp hd => by
        have h1 := nodup_take (HIFF.out.1 hd).2.2 (i + 1)
        rw [List.take_add_one, HNM.out] at h1
        have h2 := nodup_snoc.1 h1
        rcases hp with hp | hp
        · exact h2.2.1 hp
        · exact h2.2.2 hp
      obtain ⟨xn, xh, xo⟩ := y
      unfold rsv at k0 hname
      simp only at k0 k1 k2 p0 p2 hbn hbxn hzn HNB HNBZ c1 hname HNM HDUP
      clear hcx x0 x1 x2 hok hnd hb hbx hnb hy
      cases hqn : isName xn
      · have HNO := Lib.hid (HOUT.out (fun hp => by have := hp.1; simp only at this; rw [hqn] at this; cases this))
        rw [hqn] at hname
        go_wp2_with (go_at_call 54; refine (hname.out _).mono ?_; rintro e w2 ⟨rfl, rfl⟩)
        go_ret
        exact ⟨tells_false HNO.out, hbn.out⟩
      rw [hqn] at hname
      by_cases het : xn = t
      · subst het
        have HNO := Lib.hid (HDUP.out (.inl rfl))
        have hlk := tx_like xn
        go_wp2_with (go_at_call 54; refine (hname.out _).mono ?_; rintro e w2 ⟨rfl, rfl⟩)
        go_ret
        exact ⟨tells_false HNO.out, hbn.out⟩
      have hun := tx_unlike het
      have HET := Lib.hid het
      clear het
      cases xo
      rotate_left
      · have HNO := Lib.hid (HOUT.out (fun hp => by have := hp.2 rfl; omega))
        go_wp2_with (go_at_call 54; refine (hname.out _).mono ?_; rintro e w2 ⟨rfl, rfl⟩)
        go_ret
        exact ⟨tells_false HNO.out, hbn.out⟩
      have HGO := Lib.hid (HIN.out ⟨hqn, fun h => by cases h⟩)
      · go_wp2_with (go_at_call 54; refine (hname.out _).mono ?_; rintro e w2 ⟨rfl, rfl⟩)
        go_loopw [7] (fun idx wr => ImRel w (.cells #[.int .i64 1, .string (tx t), .int .u64 u, .slice (some ad) n c, .int .u64 o, .int .u64 0, .string (tx [])] 26) (.cells #[.string (tx xn), .int .u64 xh, .bool false] 56) wo.heap.size i xn l idx wr) (fun idx wr => i - (intOf idx).toNat)
        case atStart => exact ⟨0, by omega, rfl, by simp, hbn.out, hbxn.out, hzn.out, HNB.out, HNBZ.out⟩
        case round =>
          obtain ⟨j, hj, rfl, hnm, hb2, hbx2, hz2, hnb2, hnz2⟩ := hrel
          have HNM2 := Lib.hid hnm
          have HB2 := Lib.hid hb2
          have HBX2 := Lib.hid hbx2
          have HNB2 := Lib.hid hnb2
          have HZ2 := Lib.hid hz2
          have HNZ2 := Lib.hid hnz2
          have e3 := at_cell (i := 3) hbx2 rfl
          have e0 := at_cell (i := 0) hnb2 rfl
          by_cases hjlt : j < i
          · obtain ⟨z, hzz⟩ : ∃ z, l[j]? = some z := ⟨_, List.getElem?_eq_getElem (by rw [HL.out]; omega)⟩
            obtain ⟨ad', had, _, hcz⟩ := (H1.out.below hb2).2 (by omega)
            obtain rfl : ad = ad' := by injection had
            have m0 := hcz _ _ (dps_at l j z hzz).1
            have HNZ : Hid ((names l)[j]? = some z.name) := by show _ = _; unfold names; rw [List.getElem?_map, hzz]; rfl
            obtain ⟨zn, zh, zo⟩ := z
            unfold rsv at m0
            simp only at m0 HNZ
            have hj0 : (0 : Int) ≤ (j : Int) := by omega
            have hj1 : (j : Int) < (n : Int) := by omega
            clear hcz hzz hnm hb2 hbx2 hnb2 had
            by_cases hzx : zn = xn
            · subst hzx
              have hlk := tx_like zn
              have HNO := Lib.hid (HDUP.out (.inr (List.mem_of_getElem? (show ((names l).take i)[j]? = some zn by rw [List.getElem?_take, if_pos hjlt]; exact HNZ.out))))
              go_wp2_with fail
              refine wp_region_held (S := fun v1 => v1.heap = wr.heap) (by kernel_rfl) ?_
              have hS : wr.drew.heap = wr.heap := rfl
              refine h_take 0 (.pointer (some ⟨w.heap.size, 3, none⟩)) rfl (by kernel_rfl) (by kernel_rfl) (by kernel_rfl) (fun _ _ _ h => h) (by kernel_rfl) hS (fun _ _ => by kernel_rfl) ?_
              refine h_take 1 (.slice (some ad) n c) rfl (by kernel_rfl) (by kernel_rfl) (by kernel_rfl) (fun _ _ _ h => h) (by kernel_rfl) hS (by intro v1 hv; have q := (at_heap hv _).trans e3; go_simp) ?_
              refine h_take 2 (.int .i64 (j : Int)) rfl (by kernel_rfl) (by kernel_rfl) (by kernel_rfl) (fun _ _ _ h => h) (by kernel_rfl) hS (fun _ _ => by kernel_rfl) ?_
              refine h_take 3 (.pointer (some (ad.add (j * 3)))) rfl (by kernel_rfl) (by kernel_rfl) (by kernel_rfl) (fun _ _ _ h => h) (by kernel_rfl) hS (by intro v1 hv; go_simp) ?_
              refine h_take 4 (.pointer (some (ad.add (j * 3)))) rfl (by kernel_rfl) (by kernel_rfl) (by kernel_rfl) (fun _ _ _ h => h) (by kernel_rfl) hS (by intro v1 hv; go_simp) ?_
              refine h_take 5 (.string (tx zn)) rfl (by kernel_rfl) (by kernel_rfl) (by kernel_rfl) (fun _ _ _ h => h) (by kernel_rfl) hS (by intro v1 hv; have q := (at_heap hv _).trans m0; go_simp) ?_
              refine h_take 6 (.pointer (some ⟨wo.heap.size, 0, none⟩)) rfl (by kernel_rfl) (by kernel_rfl) (by kernel_rfl) (fun _ _ _ h => h) (by kernel_rfl) hS (fun _ _ => by kernel_rfl) ?_
              refine h_take 7 (.string (tx zn)) rfl (by kernel_rfl) (by kernel_rfl) (by kernel_rfl) (fun _ _ _ h => h) (by kernel_rfl) hS (by intro v1 hv; have q := (at_heap hv _).trans e0; go_simp) ?_
              refine h_take 8 (.bool true) rfl (by kernel_rfl) (by kernel_rfl) (by kernel_rfl) (fun _ _ _ h => h) (by kernel_rfl) hS (by intro v1 hv; go_simp) ?_
              refine wpAnyH_done (by kernel_rfl) ?_ _
              go_simp
              go_wp2
              go_ret
              exact ⟨tells_false HNO.out, HB2.out.drew⟩
            · have hul := tx_unlike hzx
              have HN2 : Hid (xn ∉ (names l).take (j + 1)) := fun h => by
                rw [List.take_add_one, HNZ.out, List.mem_append] at h
                rcases h with h | h
                · exact HNM2.out h
                · simp at h; exact hzx h.symm
              clear hzx
              go_wp2_with fail
              refine wp_region_held (S := fun v1 => v1.heap = wr.heap) (by kernel_rfl) ?_
              have hS : wr.drew.heap = wr.heap := rfl
              refine h_take 0 (.pointer (some ⟨w.heap.size, 3, none⟩)) rfl (by kernel_rfl) (by kernel_rfl) (by kernel_rfl) (fun _ _ _ h => h) (by kernel_rfl) hS (fun _ _ => by kernel_rfl) ?_
              refine h_take 1 (.slice (some ad) n c) rfl (by kernel_rfl) (by kernel_rfl) (by kernel_rfl) (fun _ _ _ h => h) (by kernel_rfl) hS (by intro v1 hv; have q := (at_heap hv _).trans e3; go_simp) ?_
              refine h_take 2 (.int .i64 (j : Int)) rfl (by kernel_rfl) (by kernel_rfl) (by kernel_rfl) (fun _ _ _ h => h) (by kernel_rfl) hS (fun _ _ => by kernel_rfl) ?_
              refine h_take 3 (.pointer (some (ad.add (j * 3)))) rfl (by kernel_rfl) (by kernel_rfl) (by kernel_rfl) (fun _ _ _ h => h) (by kernel_rfl) hS (by intro v1 hv; go_simp) ?_
              refine h_take 4 (.pointer (some (ad.add (j * 3)))) rfl (by kernel_rfl) (by kernel_rfl) (by kernel_rfl) (fun _ _ _ h => h) (by kernel_rfl) hS (by intro v1 hv; go_simp) ?_
              refine h_take 5 (.string (tx zn)) rfl (by kernel_rfl) (by kernel_rfl) (by kernel_rfl) (fun _ _ _ h => h) (by kernel_rfl) hS (by intro v1 hv; have q := (at_heap hv _).trans m0; go_simp) ?_
              refine h_take 6 (.pointer (some ⟨wo.heap.size, 0, none⟩)) rfl (by kernel_rfl) (by kernel_rfl) (by kernel_rfl) (fun _ _ _ h => h) (by kernel_rfl) hS (fun _ _ => by kernel_rfl) ?_
              refine h_take 7 (.string (tx xn)) rfl (by kernel_rfl) (by kernel_rfl) (by kernel_rfl) (fun _ _ _ h => h) (by kernel_rfl) hS (by intro v1 hv; have q := (at_heap hv _).trans e0; go_simp) ?_
              refine h_take 8 (.bool false) rfl (by kernel_rfl) (by kernel_rfl) (by kernel_rfl) (fun _ _ _ h => h) (by kernel_rfl) hS (by intro v1 hv; go_simp) ?_
              refine wpAnyH_done (by kernel_rfl) ?_ _
              go_simp
              go_wp2
              exact ⟨⟨j + 1, by omega, by go_num, HN2.out, HB2.out.drew, HBX2.out, HZ2.out, HNB2.out, HNZ2.out⟩, by simp [intOf]; omega⟩
          · obtain rfl : j = i := by omega
            have HND2 : Hid ((t :: (names l).take (j + 1)).Nodup) := by
              show List.Nodup _
              rw [List.take_add_one, HNM.out]
              exact nodup_snoc.2 ⟨HND.out, HET.out, HNM2.out⟩
            clear hnm hb2 hbx2 hnb2
            go_wp2
            exact ⟨⟨j + 1, by rw [HL.out]; omega, by go_num, HGO.out, HND2.out, HB2.out, HBX2.out, HZ2.out⟩, by simp [intOf]; omega⟩
    · obtain rfl : i = n := by omega
      rw [List.take_of_length_le (by rw [HL.out]; omega)] at HOK
      rw [List.take_of_length_le (by unfold names; rw [List.length_map, HL.out]; omega)] at HND
      have HP : Hid (MayP 1 ⟨1, t, u, o, 0, []⟩ l) := HIFF.out.2 ⟨by rw [HL.out]; exact H16.out, HOK.out, HND.out⟩
      clear hok hnd hb hbx
      go_wp2
      go_ret
      exact ⟨tells_true HP.out, HBR.out⟩

end Go.Proofs.Ytfidfhajnobonaa

/- The document's May: its loops. -/
namespace Go.Proofs.Ytfidfhajnobonaa
open Go.RowKit

set_option maxRecDepth 100000 in
set_option maxHeartbeats 2000000 in
theorem rmay_l2 (t : List UInt8) (u o : Int) (m : Int) (A : Option Addr) (n c : Nat) (l : List Dp) (hn : n ≤ 1000) (hfit : Fits ⟨1, t, u, o, m, []⟩ l) (hq : isName t = true) (h16 : n ≤ 16) (w : World) (h : Reads w w.heap.size 3 A n (dps l)) :
    Calls Try.prog 25 #[.int .i64 2, rcv ⟨1, t, u, o, m, []⟩ A n c] w fun e w' => Tells (MayP 2 ⟨1, t, u, o, m, []⟩ l) e ∧ Below w.heap.size w w' := by
  have HL : Hid (l.length = n) := by have := h.1; rw [dps_len] at this; show _ = _; omega
  have H1 := Lib.hid h
  have H0 := Lib.hid (one_new w (.cells (rcells ⟨1, t, u, o, m, []⟩ A n c) 26))
  have HB0 := Lib.hid ((Below.refl w.heap.size w).alloc (Nat.le_refl _) (.cells (rcells ⟨1, t, u, o, m, []⟩ A n c) 26))
  have HS0 : Hid (w.heap.size < (w.alloc (.cells (rcells ⟨1, t, u, o, m, []⟩ A n c) 26)).heap.size) := by show w.heap.size < _; simp
  have hst := tx_size0 t
  have hsg := tx_size0 []
  obtain ⟨hft, hfg, hfd⟩ := hfit
  have HFD := Lib.hid hfd
  have HNAME := Lib.hid (rname_any t)
  have q0 := at_cell (i := 0) H0.out rfl
  have q1 := at_cell (i := 1) H0.out rfl
  have q2 := at_cell (i := 2) H0.out rfl
  have q3 := at_cell (i := 3) H0.out rfl
  have q4 := at_cell (i := 4) H0.out rfl
  have q5 := at_cell (i := 5) H0.out rfl
  have q6 := at_cell (i := 6) H0.out rfl
  unfold maxLen at hft hfg
  simp only at hft hfg
  clear h hfd
  unfold rcells at *
  unfold rcv rsv at *
  rw [hq] at HNAME
  have d16 : decide ((n : Int) > 16) = false := decide_eq_false (by omega)
  have he : (tx ([] : List UInt8)).toList = [] := by simp [tx]
  have HIFF : Hid (MayP 2 ⟨1, t, u, o, m, []⟩ l ↔ DepsP 2 ⟨1, t, u, o, m, []⟩ l) := ⟨fun h => by rcases h.2.2.2 with h | h; exact h.2.2.2; exact absurd h.1 (by simp), fun h => ⟨by omega, by omega, hq, .inl ⟨rfl, .inr (by omega), .inl rfl, h⟩⟩⟩
  have H16 : Hid (n ≤ 16) := h16
  go_enter Try.func25, Try.ntmps25
  go_wp2_with (go_at_call 54; refine (HNAME.out _).mono ?_; rintro e w2 ⟨rfl, rfl⟩)
  go_loopw [5] (fun idx wr => OmRel 2 w (.cells #[.int .i64 1, .string (tx t), .int .u64 u, .slice A n c, .int .u64 o, .int .u64 m, .string (tx [])] 26) t l idx wr) (fun idx wr => n - (intOf idx).toNat)
  case atStart => exact ⟨0, by omega, rfl, by simp, by simp, HB0.out, H0.out, HS0.out⟩
  case round =>
    obtain ⟨i, hi, rfl, hok, hnd, hb, hbx, hz⟩ := hrel
    obtain ⟨wo, hwo⟩ : ∃ x, x = wr := ⟨wr, rfl⟩
    subst hwo
    have HOK := Lib.hid hok
    have HND := Lib.hid hnd
    have HBR := Lib.hid hb
    have HBX := Lib.hid hbx
    have HZ := Lib.hid hz
    rw [HL.out] at hi
    have b1 := at_cell (i := 1) hbx rfl
    have b3 := at_cell (i := 3) hbx rfl
    by_cases hlt : i < n
    · obtain ⟨y, hy⟩ : ∃ y, l[i]? = some y := ⟨_, List.getElem?_eq_getElem (by rw [HL.out]; exact hlt)⟩
      obtain ⟨ad, rfl, _, hcx⟩ := (H1.out.below hb).2 (by omega)
      obtain ⟨x0, x1, x2⟩ := dps_at l i y hy
      have k0 := hcx _ _ x0
      have k1 := hcx _ _ x1
      have k2 := hcx _ _ x2
      rw [add_one] at k1
      rw [add_two] at k2
      have hnb := one_new wo (.cells #[.string (tx y.name), .int .u64 y.hash, .bool y.order] 56)
      have p0 := at_cell (i := 0) hnb rfl
      have p2 := at_cell (i := 2) hnb rfl
      have hbn := Lib.hid (hb.alloc (by omega) (.cells #[.string (tx y.name), .int .u64 y.hash, .bool y.order] 56))
      have hbxn := Lib.hid ((Below.heap_alloc wo (.cells #[.string (tx y.name), .int .u64 y.hash, .bool y.order] 56) w.heap.size hz).trans hbx)
      have hzn : Hid (w.heap.size < (wo.alloc (.cells #[.string (tx y.name), .int .u64 y.hash, .bool y.order] 56)).heap.size) := by show w.heap.size < _; simp; omega
      have HNB := Lib.hid hnb
      have HNBZ : Hid (wo.heap.size < (wo.alloc (.cells #[.string (tx y.name), .int .u64 y.hash, .bool y.order] 56)).heap.size) := by show _ < _; simp
      have c1 := (World.cell?_alloc_lt wo (.cells #[.string (tx y.name), .int .u64 y.hash, .bool y.order] 56) ⟨w.heap.size, 1, none⟩ hz).trans b1
      have hname := Lib.hid (rname_any y.name)
      have hi0 : (0 : Int) ≤ (i : Int) := by omega
      have hi1 : (i : Int) < (n : Int) := by omega
      have HNM : Hid ((names l)[i]? = some y.name) := by show _ = _; unfold names; rw [List.getElem?_map, hy]; rfl
      have HIN : Hid (DepP 2 y → ∀ d ∈ l.take (i + 1), DepP 2 d) := fun hp d hd => by
        rw [List.take_add_one, hy, List.mem_append] at hd
        rcases hd with hd | hd
        · exact HOK.out d hd
        · simp at hd; subst hd; exact hp
      have HOUT : Hid (¬ DepP 2 y → ¬ MayP 2 ⟨1, t, u, o, m, []⟩ l) := fun hp hd => hp ((HIFF.out.1 hd).2.1 y (List.mem_of_getElem? hy))
      have HDUP : Hid (y.name = t ∨ y.name ∈ (names l).take i → ¬ MayP 2 ⟨1, t, u, o, m, []⟩ l) := fun hp hd => by
        have h1 := nodup_take (HIFF.out.1 hd).2.2 (i + 1)
        rw [List.take_add_one, HNM.out] at h1
        have h2 := nodup_snoc.1 h1
        rcases hp with hp | hp
        · exact h2.2.1 hp
        · exact h2.2.2 hp
      obtain ⟨xn, xh, xo⟩ := y
      unfold rsv at k0 hname
      simp only at k0 k1 k2 p0 p2 hbn hbxn hzn HNB HNBZ c1 hname HNM HDUP
      clear hcx x0 x1 x2 hok hnd hb hbx hnb hy
      cases hqn : isName xn
      · have HNO := Lib.hid (HOUT.out (fun hp => by have := hp.1; simp only at this; rw [hqn] at this; cases this))
        rw [hqn] at hname
        go_wp2_with (go_at_call 54; refine (hname.out _).mono ?_; rintro e w2 ⟨rfl, rfl⟩)
        go_ret
        exact ⟨tells_false HNO.out, hbn.out⟩
      rw [hqn] at hname
      by_cases het : xn = t
      · subst het
        have HNO := Lib.hid (HDUP.out (.inl rfl))
        have hlk := tx_like xn
        go_wp2_with (go_at_call 54; refine (hname.out _).mono ?_; rintro e w2 ⟨rfl, rfl⟩)
        go_ret
        exact ⟨tells_false HNO.out, hbn.out⟩
      have hun := tx_unlike het
      have HET := Lib.hid het
      clear het
      cases xo
      rotate_left
      · have HNO := Lib.hid (HOUT.out (fun hp => by have := hp.2 rfl; omega))
        go_wp2_with (go_at_call 54; refine (hname.out _).mono ?_; rintro e w2 ⟨rfl, rfl⟩)
        go_ret
        exact ⟨tells_false HNO.out, hbn.out⟩
      have HGO := Lib.hid (HIN.out ⟨hqn, fun h => by cases h⟩)
      · go_wp2_with (go_at_call 54; refine (hname.out _).mono ?_; rintro e w2 ⟨rfl, rfl⟩)
        go_loopw [7] (fun idx wr => ImRel w (.cells #[.int .i64 1, .string (tx t), .int .u64 u, .slice (some ad) n c, .int .u64 o, .int .u64 m, .string (tx [])] 26) (.cells #[.string (tx xn), .int .u64 xh, .bool false] 56) wo.heap.size i xn l idx wr) (fun idx wr => i - (intOf idx).toNat)
        case atStart => exact ⟨0, by omega, rfl, by simp, hbn.out, hbxn.out, hzn.out, HNB.out, HNBZ.out⟩
        case round =>
          obtain ⟨j, hj, rfl, hnm, hb2, hbx2, hz2, hnb2, hnz2⟩ := hrel
          have HNM2 := Lib.hid hnm
          have HB2 := Lib.hid hb2
          have HBX2 := Lib.hid hbx2
          have HNB2 := Lib.hid hnb2
          have HZ2 := Lib.hid hz2
          have HNZ2 := Lib.hid hnz2
          have e3 := at_cell (i := 3) hbx2 rfl
          have e0 := at_cell (i := 0) hnb2 rfl
          by_cases hjlt : j < i
          · obtain ⟨z, hzz⟩ : ∃ z, l[j]? = some z := ⟨_, List.getElem?_eq_getElem (by rw [HL.out]; omega)⟩
            obtain ⟨ad', had, _, hcz⟩ := (H1.out.below hb2).2 (by omega)
            obtain rfl : ad = ad' := by injection had
            have m0 := hcz _ _ (dps_at l j z hzz).1
            have HNZ : Hid ((names l)[j]? = some z.name) := by show _ = _; unfold names; rw [List.getElem?_map, hzz]; rfl
            obtain ⟨zn, zh, zo⟩ := z
            unfold rsv at m0
            simp only at m0 HNZ
            have hj0 : (0 : Int) ≤ (j : Int) := by omega
            have hj1 : (j : Int) < (n : Int) := by omega
            clear hcz hzz hnm hb2 hbx2 hnb2 had
            by_cases hzx : zn = xn
            · subst hzx
              have hlk := tx_like zn
              have HNO := Lib.hid (HDUP.out (.inr (List.mem_of_getElem? (show ((names l).take i)[j]? = some zn by rw [List.getElem?_take, if_pos hjlt]; exact HNZ.out))))
              go_wp2_with fail
              refine wp_region_held (S := fun v1 => v1.heap = wr.heap) (by kernel_rfl) ?_
              have hS : wr.drew.heap = wr.heap := rfl
              refine h_take 0 (.pointer (some ⟨w.heap.size, 3, none⟩)) rfl (by kernel_rfl) (by kernel_rfl) (by kernel_rfl) (fun _ _ _ h => h) (by kernel_rfl) hS (fun _ _ => by kernel_rfl) ?_
              refine h_take 1 (.slice (some ad) n c) rfl (by kernel_rfl) (by kernel_rfl) (by kernel_rfl) (fun _ _ _ h => h) (by kernel_rfl) hS (by intro v1 hv; have q := (at_heap hv _).trans e3; go_simp) ?_
              refine h_take 2 (.int .i64 (j : Int)) rfl (by kernel_rfl) (by kernel_rfl) (by kernel_rfl) (fun _ _ _ h => h) (by kernel_rfl) hS (fun _ _ => by kernel_rfl) ?_
              refine h_take 3 (.pointer (some (ad.add (j * 3)))) rfl (by kernel_rfl) (by kernel_rfl) (by kernel_rfl) (fun _ _ _ h => h) (by kernel_rfl) hS (by intro v1 hv; go_simp) ?_
              refine h_take 4 (.pointer (some (ad.add (j * 3)))) rfl (by kernel_rfl) (by kernel_rfl) (by kernel_rfl) (fun _ _ _ h => h) (by kernel_rfl) hS (by intro v1 hv; go_simp) ?_
              refine h_take 5 (.string (tx zn)) rfl (by kernel_rfl) (by kernel_rfl) (by kernel_rfl) (fun _ _ _ h => h) (by kernel_rfl) hS (by intro v1 hv; have q := (at_heap hv _).trans m0; go_simp) ?_
              refine h_take 6 (.pointer (some ⟨wo.heap.size, 0, none⟩)) rfl (by kernel_rfl) (by kernel_rfl) (by kernel_rfl) (fun _ _ _ h => h) (by kernel_rfl) hS (fun _ _ => by kernel_rfl) ?_
              refine h_take 7 (.string (tx zn)) rfl (by kernel_rfl) (by kernel_rfl) (by kernel_rfl) (fun _ _ _ h => h) (by kernel_rfl) hS (by intro v1 hv; have q := (at_heap hv _).trans e0; go_simp) ?_
              refine h_take 8 (.bool true) rfl (by kernel_rfl) (by kernel_rfl) (by kernel_rfl) (fun _ _ _ h => h) (by kernel_rfl) hS (by intro v1 hv; go_simp) ?_
              refine wpAnyH_done (by kernel_rfl) ?_ _
              go_simp
              go_wp2
              go_ret
              exact ⟨tells_false HNO.out, HB2.out.drew⟩
            · have hul := tx_unlike hzx
              have HN2 : Hid (xn ∉ (names l).take (j + 1)) := fun h => by
                rw [List.take_add_one, HNZ.out, List.mem_append] at h
                rcases h with h | h
                · exact HNM2.out h
                · simp at h; exact hzx h.symm
              clear hzx
              go_wp2_with fail
              refine wp_region_held (S := fun v1 => v1.heap = wr.heap) (by kernel_rfl) ?_
              have hS : wr.drew.heap = wr.heap := rfl
              refine h_take 0 (.pointer (some ⟨w.heap.size, 3, none⟩)) rfl (by kernel_rfl) (by kernel_rfl) (by kernel_rfl) (fun _ _ _ h => h) (by kernel_rfl) hS (fun _ _ => by kernel_rfl) ?_
              refine h_take 1 (.slice (some ad) n c) rfl (by kernel_rfl) (by kernel_rfl) (by kernel_rfl) (fun _ _ _ h => h) (by kernel_rfl) hS (by intro v1 hv; have q := (at_heap hv _).trans e3; go_simp) ?_
              refine h_take 2 (.int .i64 (j : Int)) rfl (by kernel_rfl) (by kernel_rfl) (by kernel_rfl) (fun _ _ _ h => h) (by kernel_rfl) hS (fun _ _ => by kernel_rfl) ?_
              refine h_take 3 (.pointer (some (ad.add (j * 3)))) rfl (by kernel_rfl) (by kernel_rfl) (by kernel_rfl) (fun _ _ _ h => h) (by kernel_rfl) hS (by intro v1 hv; go_simp) ?_
              refine h_take 4 (.pointer (some (ad.add (j * 3)))) rfl (by kernel_rfl) (by kernel_rfl) (by kernel_rfl) (fun _ _ _ h => h) (by kernel_rfl) hS (by intro v1 hv; go_simp) ?_
              refine h_take 5 (.string (tx zn)) rfl (by kernel_rfl) (by kernel_rfl) (by kernel_rfl) (fun _ _ _ h => h) (by kernel_rfl) hS (by intro v1 hv; have q := (at_heap hv _).trans m0; go_simp) ?_
              refine h_take 6 (.pointer (some ⟨wo.heap.size, 0, none⟩)) rfl (by kernel_rfl) (by kernel_rfl) (by kernel_rfl) (fun _ _ _ h => h) (by kernel_rfl) hS (fun _ _ => by kernel_rfl) ?_
              refine h_take 7 (.string (tx xn)) rfl (by kernel_rfl) (by kernel_rfl) (by kernel_rfl) (fun _ _ _ h => h) (by kernel_rfl) hS (by intro v1 hv; have q := (at_heap hv _).trans e0; go_simp) ?_
              refine h_take 8 (.bool false) rfl (by kernel_rfl) (by kernel_rfl) (by kernel_rfl) (fun _ _ _ h => h) (by kernel_rfl) hS (by intro v1 hv; go_simp) ?_
              refine wpAnyH_done (by kernel_rfl) ?_ _
              go_simp
              go_wp2
              exact ⟨⟨j + 1, by omega, by go_num, HN2.out, HB2.out.drew, HBX2.out, HZ2.out, HNB2.out, HNZ2.out⟩, by simp [intOf]; omega⟩
          · obtain rfl : j = i := by omega
            have HND2 : Hid ((t :: (names l).take (j + 1)).Nodup) := by
              show List.Nodup _
              rw [List.take_add_one, HNM.out]
              exact nodup_snoc.2 ⟨HND.out, HET.out, HNM2.out⟩
            clear hnm hb2 hbx2 hnb2
            go_wp2
            exact ⟨⟨j + 1, by rw [HL.out]; omega, by go_num, HGO.out, HND2.out, HB2.out, HBX2.out, HZ2.out⟩, by simp [intOf]; omega⟩
    · obtain rfl : i = n := by omega
      rw [List.take_of_length_le (by rw [HL.out]; omega)] at HOK
      rw [List.take_of_length_le (by unfold names; rw [List.length_map, HL.out]; omega)] at HND
      have HP : Hid (MayP 2 ⟨1, t, u, o, m, []⟩ l) := HIFF.out.2 ⟨by rw [HL.out]; exact H16.out, HOK.out, HND.out⟩
      clear hok hnd hb hbx
      go_wp2
      go_ret
      exact ⟨tells_true HP.out, HBR.out⟩

end Go.Proofs.Ytfidfhajnobonaa

/- The document's May: its loops. -/
namespace Go.Proofs.Ytfidfhajnobonaa
open Go.RowKit

set_option maxRecDepth 100000 in
set_option maxHeartbeats 2000000 in
theorem rmay_l3 (t : List UInt8) (u o : Int) (m : Int) (A : Option Addr) (n c : Nat) (l : List Dp) (hn : n ≤ 1000) (hfit : Fits ⟨1, t, u, o, m, []⟩ l) (hq : isName t = true) (h16 : n ≤ 16) (w : World) (h : Reads w w.heap.size 3 A n (dps l)) :
    Calls Try.prog 25 #[.int .i64 3, rcv ⟨1, t, u, o, m, []⟩ A n c] w fun e w' => Tells (MayP 3 ⟨1, t, u, o, m, []⟩ l) e ∧ Below w.heap.size w w' := by
  have HL : Hid (l.length = n) := by have := h.1; rw [dps_len] at this; show _ = _; omega
  have H1 := Lib.hid h
  have H0 := Lib.hid (one_new w (.cells (rcells ⟨1, t, u, o, m, []⟩ A n c) 26))
  have HB0 := Lib.hid ((Below.refl w.heap.size w).alloc (Nat.le_refl _) (.cells (rcells ⟨1, t, u, o, m, []⟩ A n c) 26))
  have HS0 : Hid (w.heap.size < (w.alloc (.cells (rcells ⟨1, t, u, o, m, []⟩ A n c) 26)).heap.size) := by show w.heap.size < _; simp
  have hst := tx_size0 t
  have hsg := tx_size0 []
  obtain ⟨hft, hfg, hfd⟩ := hfit
  have HFD := Lib.hid hfd
  have HNAME := Lib.hid (rname_any t)
  have q0 := at_cell (i := 0) H0.out rfl
  have q1 := at_cell (i := 1) H0.out rfl
  have q2 := at_cell (i := 2) H0.out rfl
  have q3 := at_cell (i := 3) H0.out rfl
  have q4 := at_cell (i := 4) H0.out rfl
  have q5 := at_cell (i := 5) H0.out rfl
  have q6 := at_cell (i := 6) H0.out rfl
  unfold maxLen at hft hfg
  simp only at hft hfg
  clear h hfd
  unfold rcells at *
  unfold rcv rsv at *
  rw [hq] at HNAME
  have d16 : decide ((n : Int) > 16) = false := decide_eq_false (by omega)
  have he : (tx ([] : List UInt8)).toList = [] := by simp [tx]
  have HIFF : Hid (MayP 3 ⟨1, t, u, o, m, []⟩ l ↔ DepsP 3 ⟨1, t, u, o, m, []⟩ l) := ⟨fun h => by rcases h.2.2.2 with h | h; exact h.2.2.2; exact absurd h.1 (by simp), fun h => ⟨by omega, by omega, hq, .inl ⟨rfl, .inr (by omega), .inl rfl, h⟩⟩⟩
  have H16 : Hid (n ≤ 16) := h16
  go_enter Try.func25, Try.ntmps25
  go_wp2_with (go_at_call 54; refine (HNAME.out _).mono ?_; rintro e w2 ⟨rfl, rfl⟩)
  go_loopw [5] (fun idx wr => OmRel 3 w (.cells #[.int .i64 1, .string (tx t), .int .u64 u, .slice A n c, .int .u64 o, .int .u64 m, .string (tx [])] 26) t l idx wr) (fun idx wr => n - (intOf idx).toNat)
  case atStart => exact ⟨0, by omega, rfl, by simp, by simp, HB0.out, H0.out, HS0.out⟩
  case round =>
    obtain ⟨i, hi, rfl, hok, hnd, hb, hbx, hz⟩ := hrel
    obtain ⟨wo, hwo⟩ : ∃ x, x = wr := ⟨wr, rfl⟩
    subst hwo
    have HOK := Lib.hid hok
    have HND := Lib.hid hnd
    have HBR := Lib.hid hb
    have HBX := Lib.hid hbx
    have HZ := Lib.hid hz
    rw [HL.out] at hi
    have b1 := at_cell (i := 1) hbx rfl
    have b3 := at_cell (i := 3) hbx rfl
    by_cases hlt : i < n
    · obtain ⟨y, hy⟩ : ∃ y, l[i]? = some y := ⟨_, List.getElem?_eq_getElem (by rw [HL.out]; exact hlt)⟩
      obtain ⟨ad, rfl, _, hcx⟩ := (H1.out.below hb).2 (by omega)
      obtain ⟨x0, x1, x2⟩ := dps_at l i y hy
      have k0 := hcx _ _ x0
      have k1 := hcx _ _ x1
      have k2 := hcx _ _ x2
      rw [add_one] at k1
      rw [add_two] at k2
      have hnb := one_new wo (.cells #[.string (tx y.name), .int .u64 y.hash, .bool y.order] 56)
      have p0 := at_cell (i := 0) hnb rfl
      have p2 := at_cell (i := 2) hnb rfl
      have hbn := Lib.hid (hb.alloc (by omega) (.cells #[.string (tx y.name), .int .u64 y.hash, .bool y.order] 56))
      have hbxn := Lib.hid ((Below.heap_alloc wo (.cells #[.string (tx y.name), .int .u64 y.hash, .bool y.order] 56) w.heap.size hz).trans hbx)
      have hzn : Hid (w.heap.size < (wo.alloc (.cells #[.string (tx y.name), .int .u64 y.hash, .bool y.order] 56)).heap.size) := by show w.heap.size < _; simp; omega
      have HNB := Lib.hid hnb
      have HNBZ : Hid (wo.heap.size < (wo.alloc (.cells #[.string (tx y.name), .int .u64 y.hash, .bool y.order] 56)).heap.size) := by show _ < _; simp
      have c1 := (World.cell?_alloc_lt wo (.cells #[.string (tx y.name), .int .u64 y.hash, .bool y.order] 56) ⟨w.heap.size, 1, none⟩ hz).trans b1
      have hname := Lib.hid (rname_any y.name)
      have hi0 : (0 : Int) ≤ (i : Int) := by omega
      have hi1 : (i : Int) < (n : Int) := by omega
      have HNM : Hid ((names l)[i]? = some y.name) := by show _ = _; unfold names; rw [List.getElem?_map, hy]; rfl
      have HIN : Hid (DepP 3 y → ∀ d ∈ l.take (i + 1), DepP 3 d) := fun hp d hd => by
        rw [List.take_add_one, hy, List.mem_append] at hd
        rcases hd with hd | hd
        · exact HOK.out d hd
        · simp at hd; subst hd; exact hp
      have HOUT : Hid (¬ DepP 3 y → ¬ MayP 3 ⟨1, t, u, o, m, []⟩ l) := fun hp hd => hp ((HIFF.out.1 hd).2.1 y (List.mem_of_getElem? hy))
      have HDUP : Hid (y.name = t ∨ y.name ∈ (names l).take i → ¬ MayP 3 ⟨1, t, u, o, m, []⟩ l) := fun hp hd => by
        have h1 := nodup_take (HIFF.out.1 hd).2.2 (i + 1)
        rw [List.take_add_one, HNM.out] at h1
        have h2 := nodup_snoc.1 h1
        rcases hp with hp | hp
        · exact h2.2.1 hp
        · exact h2.2.2 hp
      obtain ⟨xn, xh, xo⟩ := y
      unfold rsv at k0 hname
      simp only at k0 k1 k2 p0 p2 hbn hbxn hzn HNB HNBZ c1 hname HNM HDUP
      clear hcx x0 x1 x2 hok hnd hb hbx hnb hy
      cases hqn : isName xn
      · have HNO := Lib.hid (HOUT.out (fun hp => by have := hp.1; simp only at this; rw [hqn] at this; cases this))
        rw [hqn] at hname
        go_wp2_with (go_at_call 54; refine (hname.out _).mono ?_; rintro e w2 ⟨rfl, rfl⟩)
        go_ret
        exact ⟨tells_false HNO.out, hbn.out⟩
      rw [hqn] at hname
      by_cases het : xn = t
      · subst het
        have HNO := Lib.hid (HDUP.out (.inl rfl))
        have hlk := tx_like xn
        go_wp2_with (go_at_call 54; refine (hname.out _).mono ?_; rintro e w2 ⟨rfl, rfl⟩)
        go_ret
        exact ⟨tells_false HNO.out, hbn.out⟩
      have hun := tx_unlike het
      have HET := Lib.hid het
      clear het
      have HGO := Lib.hid (HIN.out ⟨hqn, fun h => by omega⟩)
      cases xo
      · go_wp2_with (go_at_call 54; refine (hname.out _).mono ?_; rintro e w2 ⟨rfl, rfl⟩)
        go_loopw [7] (fun idx wr => ImRel w (.cells #[.int .i64 1, .string (tx t), .int .u64 u, .slice (some ad) n c, .int .u64 o, .int .u64 m, .string (tx [])] 26) (.cells #[.string (tx xn), .int .u64 xh, .bool false] 56) wo.heap.size i xn l idx wr) (fun idx wr => i - (intOf idx).toNat)
        case atStart => exact ⟨0, by omega, rfl, by simp, hbn.out, hbxn.out, hzn.out, HNB.out, HNBZ.out⟩
        case round =>
          obtain ⟨j, hj, rfl, hnm, hb2, hbx2, hz2, hnb2, hnz2⟩ := hrel
          have HNM2 := Lib.hid hnm
          have HB2 := Lib.hid hb2
          have HBX2 := Lib.hid hbx2
          have HNB2 := Lib.hid hnb2
          have HZ2 := Lib.hid hz2
          have HNZ2 := Lib.hid hnz2
          have e3 := at_cell (i := 3) hbx2 rfl
          have e0 := at_cell (i := 0) hnb2 rfl
          by_cases hjlt : j < i
          · obtain ⟨z, hzz⟩ : ∃ z, l[j]? = some z := ⟨_, List.getElem?_eq_getElem (by rw [HL.out]; omega)⟩
            obtain ⟨ad', had, _, hcz⟩ := (H1.out.below hb2).2 (by omega)
            obtain rfl : ad = ad' := by injection had
            have m0 := hcz _ _ (dps_at l j z hzz).1
            have HNZ : Hid ((names l)[j]? = some z.name) := by show _ = _; unfold names; rw [List.getElem?_map, hzz]; rfl
            obtain ⟨zn, zh, zo⟩ := z
            unfold rsv at m0
            simp only at m0 HNZ
            have hj0 : (0 : Int) ≤ (j : Int) := by omega
            have hj1 : (j : Int) < (n : Int) := by omega
            clear hcz hzz hnm hb2 hbx2 hnb2 had
            by_cases hzx : zn = xn
            · subst hzx
              have hlk := tx_like zn
              have HNO := Lib.hid (HDUP.out (.inr (List.mem_of_getElem? (show ((names l).take i)[j]? = some zn by rw [List.getElem?_take, if_pos hjlt]; exact HNZ.out))))
              go_wp2_with fail
              refine wp_region_held (S := fun v1 => v1.heap = wr.heap) (by kernel_rfl) ?_
              have hS : wr.drew.heap = wr.heap := rfl
              refine h_take 0 (.pointer (some ⟨w.heap.size, 3, none⟩)) rfl (by kernel_rfl) (by kernel_rfl) (by kernel_rfl) (fun _ _ _ h => h) (by kernel_rfl) hS (fun _ _ => by kernel_rfl) ?_
              refine h_take 1 (.slice (some ad) n c) rfl (by kernel_rfl) (by kernel_rfl) (by kernel_rfl) (fun _ _ _ h => h) (by kernel_rfl) hS (by intro v1 hv; have q := (at_heap hv _).trans e3; go_simp) ?_
              refine h_take 2 (.int .i64 (j : Int)) rfl (by kernel_rfl) (by kernel_rfl) (by kernel_rfl) (fun _ _ _ h => h) (by kernel_rfl) hS (fun _ _ => by kernel_rfl) ?_
              refine h_take 3 (.pointer (some (ad.add (j * 3)))) rfl (by kernel_rfl) (by kernel_rfl) (by kernel_rfl) (fun _ _ _ h => h) (by kernel_rfl) hS (by intro v1 hv; go_simp) ?_
              refine h_take 4 (.pointer (some (ad.add (j * 3)))) rfl (by kernel_rfl) (by kernel_rfl) (by kernel_rfl) (fun _ _ _ h => h) (by kernel_rfl) hS (by intro v1 hv; go_simp) ?_
              refine h_take 5 (.string (tx zn)) rfl (by kernel_rfl) (by kernel_rfl) (by kernel_rfl) (fun _ _ _ h => h) (by kernel_rfl) hS (by intro v1 hv; have q := (at_heap hv _).trans m0; go_simp) ?_
              refine h_take 6 (.pointer (some ⟨wo.heap.size, 0, none⟩)) rfl (by kernel_rfl) (by kernel_rfl) (by kernel_rfl) (fun _ _ _ h => h) (by kernel_rfl) hS (fun _ _ => by kernel_rfl) ?_
              refine h_take 7 (.string (tx zn)) rfl (by kernel_rfl) (by kernel_rfl) (by kernel_rfl) (fun _ _ _ h => h) (by kernel_rfl) hS (by intro v1 hv; have q := (at_heap hv _).trans e0; go_simp) ?_
              refine h_take 8 (.bool true) rfl (by kernel_rfl) (by kernel_rfl) (by kernel_rfl) (fun _ _ _ h => h) (by kernel_rfl) hS (by intro v1 hv; go_simp) ?_
              refine wpAnyH_done (by kernel_rfl) ?_ _
              go_simp
              go_wp2
              go_ret
              exact ⟨tells_false HNO.out, HB2.out.drew⟩
            · have hul := tx_unlike hzx
              have HN2 : Hid (xn ∉ (names l).take (j + 1)) := fun h => by
                rw [List.take_add_one, HNZ.out, List.mem_append] at h
                rcases h with h | h
                · exact HNM2.out h
                · simp at h; exact hzx h.symm
              clear hzx
              go_wp2_with fail
              refine wp_region_held (S := fun v1 => v1.heap = wr.heap) (by kernel_rfl) ?_
              have hS : wr.drew.heap = wr.heap := rfl
              refine h_take 0 (.pointer (some ⟨w.heap.size, 3, none⟩)) rfl (by kernel_rfl) (by kernel_rfl) (by kernel_rfl) (fun _ _ _ h => h) (by kernel_rfl) hS (fun _ _ => by kernel_rfl) ?_
              refine h_take 1 (.slice (some ad) n c) rfl (by kernel_rfl) (by kernel_rfl) (by kernel_rfl) (fun _ _ _ h => h) (by kernel_rfl) hS (by intro v1 hv; have q := (at_heap hv _).trans e3; go_simp) ?_
              refine h_take 2 (.int .i64 (j : Int)) rfl (by kernel_rfl) (by kernel_rfl) (by kernel_rfl) (fun _ _ _ h => h) (by kernel_rfl) hS (fun _ _ => by kernel_rfl) ?_
              refine h_take 3 (.pointer (some (ad.add (j * 3)))) rfl (by kernel_rfl) (by kernel_rfl) (by kernel_rfl) (fun _ _ _ h => h) (by kernel_rfl) hS (by intro v1 hv; go_simp) ?_
              refine h_take 4 (.pointer (some (ad.add (j * 3)))) rfl (by kernel_rfl) (by kernel_rfl) (by kernel_rfl) (fun _ _ _ h => h) (by kernel_rfl) hS (by intro v1 hv; go_simp) ?_
              refine h_take 5 (.string (tx zn)) rfl (by kernel_rfl) (by kernel_rfl) (by kernel_rfl) (fun _ _ _ h => h) (by kernel_rfl) hS (by intro v1 hv; have q := (at_heap hv _).trans m0; go_simp) ?_
              refine h_take 6 (.pointer (some ⟨wo.heap.size, 0, none⟩)) rfl (by kernel_rfl) (by kernel_rfl) (by kernel_rfl) (fun _ _ _ h => h) (by kernel_rfl) hS (fun _ _ => by kernel_rfl) ?_
              refine h_take 7 (.string (tx xn)) rfl (by kernel_rfl) (by kernel_rfl) (by kernel_rfl) (fun _ _ _ h => h) (by kernel_rfl) hS (by intro v1 hv; have q := (at_heap hv _).trans e0; go_simp) ?_
              refine h_take 8 (.bool false) rfl (by kernel_rfl) (by kernel_rfl) (by kernel_rfl) (fun _ _ _ h => h) (by kernel_rfl) hS (by intro v1 hv; go_simp) ?_
              refine wpAnyH_done (by kernel_rfl) ?_ _
              go_simp
              go_wp2
              exact ⟨⟨j + 1, by omega, by go_num, HN2.out, HB2.out.drew, HBX2.out, HZ2.out, HNB2.out, HNZ2.out⟩, by simp [intOf]; omega⟩
          · obtain rfl : j = i := by omega
            have HND2 : Hid ((t :: (names l).take (j + 1)).Nodup) := by
              show List.Nodup _
              rw [List.take_add_one, HNM.out]
              exact nodup_snoc.2 ⟨HND.out, HET.out, HNM2.out⟩
            clear hnm hb2 hbx2 hnb2
            go_wp2
            exact ⟨⟨j + 1, by rw [HL.out]; omega, by go_num, HGO.out, HND2.out, HB2.out, HBX2.out, HZ2.out⟩, by simp [intOf]; omega⟩
      · go_wp2_with (go_at_call 54; refine (hname.out _).mono ?_; rintro e w2 ⟨rfl, rfl⟩)
        go_loopw [7] (fun idx wr => ImRel w (.cells #[.int .i64 1, .string (tx t), .int .u64 u, .slice (some ad) n c, .int .u64 o, .int .u64 m, .string (tx [])] 26) (.cells #[.string (tx xn), .int .u64 xh, .bool true] 56) wo.heap.size i xn l idx wr) (fun idx wr => i - (intOf idx).toNat)
        case atStart => exact ⟨0, by omega, rfl, by simp, hbn.out, hbxn.out, hzn.out, HNB.out, HNBZ.out⟩
        case round =>
          obtain ⟨j, hj, rfl, hnm, hb2, hbx2, hz2, hnb2, hnz2⟩ := hrel
          have HNM2 := Lib.hid hnm
          have HB2 := Lib.hid hb2
          have HBX2 := Lib.hid hbx2
          have HNB2 := Lib.hid hnb2
          have HZ2 := Lib.hid hz2
          have HNZ2 := Lib.hid hnz2
          have e3 := at_cell (i := 3) hbx2 rfl
          have e0 := at_cell (i := 0) hnb2 rfl
          by_cases hjlt : j < i
          · obtain ⟨z, hzz⟩ : ∃ z, l[j]? = some z := ⟨_, List.getElem?_eq_getElem (by rw [HL.out]; omega)⟩
            obtain ⟨ad', had, _, hcz⟩ := (H1.out.below hb2).2 (by omega)
            obtain rfl : ad = ad' := by injection had
            have m0 := hcz _ _ (dps_at l j z hzz).1
            have HNZ : Hid ((names l)[j]? = some z.name) := by show _ = _; unfold names; rw [List.getElem?_map, hzz]; rfl
            obtain ⟨zn, zh, zo⟩ := z
            unfold rsv at m0
            simp only at m0 HNZ
            have hj0 : (0 : Int) ≤ (j : Int) := by omega
            have hj1 : (j : Int) < (n : Int) := by omega
            clear hcz hzz hnm hb2 hbx2 hnb2 had
            by_cases hzx : zn = xn
            · subst hzx
              have hlk := tx_like zn
              have HNO := Lib.hid (HDUP.out (.inr (List.mem_of_getElem? (show ((names l).take i)[j]? = some zn by rw [List.getElem?_take, if_pos hjlt]; exact HNZ.out))))
              go_wp2_with fail
              refine wp_region_held (S := fun v1 => v1.heap = wr.heap) (by kernel_rfl) ?_
              have hS : wr.drew.heap = wr.heap := rfl
              refine h_take 0 (.pointer (some ⟨w.heap.size, 3, none⟩)) rfl (by kernel_rfl) (by kernel_rfl) (by kernel_rfl) (fun _ _ _ h => h) (by kernel_rfl) hS (fun _ _ => by kernel_rfl) ?_
              refine h_take 1 (.slice (some ad) n c) rfl (by kernel_rfl) (by kernel_rfl) (by kernel_rfl) (fun _ _ _ h => h) (by kernel_rfl) hS (by intro v1 hv; have q := (at_heap hv _).trans e3; go_simp) ?_
              refine h_take 2 (.int .i64 (j : Int)) rfl (by kernel_rfl) (by kernel_rfl) (by kernel_rfl) (fun _ _ _ h => h) (by kernel_rfl) hS (fun _ _ => by kernel_rfl) ?_
              refine h_take 3 (.pointer (some (ad.add (j * 3)))) rfl (by kernel_rfl) (by kernel_rfl) (by kernel_rfl) (fun _ _ _ h => h) (by kernel_rfl) hS (by intro v1 hv; go_simp) ?_
              refine h_take 4 (.pointer (some (ad.add (j * 3)))) rfl (by kernel_rfl) (by kernel_rfl) (by kernel_rfl) (fun _ _ _ h => h) (by kernel_rfl) hS (by intro v1 hv; go_simp) ?_
              refine h_take 5 (.string (tx zn)) rfl (by kernel_rfl) (by kernel_rfl) (by kernel_rfl) (fun _ _ _ h => h) (by kernel_rfl) hS (by intro v1 hv; have q := (at_heap hv _).trans m0; go_simp) ?_
              refine h_take 6 (.pointer (some ⟨wo.heap.size, 0, none⟩)) rfl (by kernel_rfl) (by kernel_rfl) (by kernel_rfl) (fun _ _ _ h => h) (by kernel_rfl) hS (fun _ _ => by kernel_rfl) ?_
              refine h_take 7 (.string (tx zn)) rfl (by kernel_rfl) (by kernel_rfl) (by kernel_rfl) (fun _ _ _ h => h) (by kernel_rfl) hS (by intro v1 hv; have q := (at_heap hv _).trans e0; go_simp) ?_
              refine h_take 8 (.bool true) rfl (by kernel_rfl) (by kernel_rfl) (by kernel_rfl) (fun _ _ _ h => h) (by kernel_rfl) hS (by intro v1 hv; go_simp) ?_
              refine wpAnyH_done (by kernel_rfl) ?_ _
              go_simp
              go_wp2
              go_ret
              exact ⟨tells_false HNO.out, HB2.out.drew⟩
            · have hul := tx_unlike hzx
              have HN2 : Hid (xn ∉ (names l).take (j + 1)) := fun h => by
                rw [List.take_add_one, HNZ.out, List.mem_append] at h
                rcases h with h | h
                · exact HNM2.out h
                · simp at h; exact hzx h.symm
              clear hzx
              go_wp2_with fail
              refine wp_region_held (S := fun v1 => v1.heap = wr.heap) (by kernel_rfl) ?_
              have hS : wr.drew.heap = wr.heap := rfl
              refine h_take 0 (.pointer (some ⟨w.heap.size, 3, none⟩)) rfl (by kernel_rfl) (by kernel_rfl) (by kernel_rfl) (fun _ _ _ h => h) (by kernel_rfl) hS (fun _ _ => by kernel_rfl) ?_
              refine h_take 1 (.slice (some ad) n c) rfl (by kernel_rfl) (by kernel_rfl) (by kernel_rfl) (fun _ _ _ h => h) (by kernel_rfl) hS (by intro v1 hv; have q := (at_heap hv _).trans e3; go_simp) ?_
              refine h_take 2 (.int .i64 (j : Int)) rfl (by kernel_rfl) (by kernel_rfl) (by kernel_rfl) (fun _ _ _ h => h) (by kernel_rfl) hS (fun _ _ => by kernel_rfl) ?_
              refine h_take 3 (.pointer (some (ad.add (j * 3)))) rfl (by kernel_rfl) (by kernel_rfl) (by kernel_rfl) (fun _ _ _ h => h) (by kernel_rfl) hS (by intro v1 hv; go_simp) ?_
              refine h_take 4 (.pointer (some (ad.add (j * 3)))) rfl (by kernel_rfl) (by kernel_rfl) (by kernel_rfl) (fun _ _ _ h => h) (by kernel_rfl) hS (by intro v1 hv; go_simp) ?_
              refine h_take 5 (.string (tx zn)) rfl (by kernel_rfl) (by kernel_rfl) (by kernel_rfl) (fun _ _ _ h => h) (by kernel_rfl) hS (by intro v1 hv; have q := (at_heap hv _).trans m0; go_simp) ?_
              refine h_take 6 (.pointer (some ⟨wo.heap.size, 0, none⟩)) rfl (by kernel_rfl) (by kernel_rfl) (by kernel_rfl) (fun _ _ _ h => h) (by kernel_rfl) hS (fun _ _ => by kernel_rfl) ?_
              refine h_take 7 (.string (tx xn)) rfl (by kernel_rfl) (by kernel_rfl) (by kernel_rfl) (fun _ _ _ h => h) (by kernel_rfl) hS (by intro v1 hv; have q := (at_heap hv _).trans e0; go_simp) ?_
              refine h_take 8 (.bool false) rfl (by kernel_rfl) (by kernel_rfl) (by kernel_rfl) (fun _ _ _ h => h) (by kernel_rfl) hS (by intro v1 hv; go_simp) ?_
              refine wpAnyH_done (by kernel_rfl) ?_ _
              go_simp
              go_wp2
              exact ⟨⟨j + 1, by omega, by go_num, HN2.out, HB2.out.drew, HBX2.out, HZ2.out, HNB2.out, HNZ2.out⟩, by simp [intOf]; omega⟩
          · obtain rfl : j = i := by omega
            have HND2 : Hid ((t :: (names l).take (j + 1)).Nodup) := by
              show List.Nodup _
              rw [List.take_add_one, HNM.out]
              exact nodup_snoc.2 ⟨HND.out, HET.out, HNM2.out⟩
            clear hnm hb2 hbx2 hnb2
            go_wp2
            exact ⟨⟨j + 1, by rw [HL.out]; omega, by go_num, HGO.out, HND2.out, HB2.out, HBX2.out, HZ2.out⟩, by simp [intOf]; omega⟩
    · obtain rfl : i = n := by omega
      rw [List.take_of_length_le (by rw [HL.out]; omega)] at HOK
      rw [List.take_of_length_le (by unfold names; rw [List.length_map, HL.out]; omega)] at HND
      have HP : Hid (MayP 3 ⟨1, t, u, o, m, []⟩ l) := HIFF.out.2 ⟨by rw [HL.out]; exact H16.out, HOK.out, HND.out⟩
      clear hok hnd hb hbx
      go_wp2
      go_ret
      exact ⟨tells_true HP.out, HBR.out⟩

end Go.Proofs.Ytfidfhajnobonaa

/- The document's May: its loops. -/
namespace Go.Proofs.Ytfidfhajnobonaa
open Go.RowKit

set_option maxRecDepth 100000 in
set_option maxHeartbeats 2000000 in
theorem rmay_l4 (t : List UInt8) (u o : Int) (m : Int) (g : List UInt8) (A : Option Addr) (n c : Nat) (l : List Dp) (hn : n ≤ 1000) (hfit : Fits ⟨1, t, u, o, m, g⟩ l) (hq : isName t = true) (h16 : n ≤ 16) (hg : g ≠ []) (h64 : g.length ≤ 64) (w : World) (h : Reads w w.heap.size 3 A n (dps l)) :
    Calls Try.prog 25 #[.int .i64 3, rcv ⟨1, t, u, o, m, g⟩ A n c] w fun e w' => Tells (MayP 3 ⟨1, t, u, o, m, g⟩ l) e ∧ Below w.heap.size w w' := by
  have HL : Hid (l.length = n) := by have := h.1; rw [dps_len] at this; show _ = _; omega
  have H1 := Lib.hid h
  have H0 := Lib.hid (one_new w (.cells (rcells ⟨1, t, u, o, m, g⟩ A n c) 26))
  have HB0 := Lib.hid ((Below.refl w.heap.size w).alloc (Nat.le_refl _) (.cells (rcells ⟨1, t, u, o, m, g⟩ A n c) 26))
  have HS0 : Hid (w.heap.size < (w.alloc (.cells (rcells ⟨1, t, u, o, m, g⟩ A n c) 26)).heap.size) := by show w.heap.size < _; simp
  have hst := tx_size0 t
  have hsg := tx_size0 g
  obtain ⟨hft, hfg, hfd⟩ := hfit
  have HFD := Lib.hid hfd
  have HNAME := Lib.hid (rname_any t)
  have q0 := at_cell (i := 0) H0.out rfl
  have q1 := at_cell (i := 1) H0.out rfl
  have q2 := at_cell (i := 2) H0.out rfl
  have q3 := at_cell (i := 3) H0.out rfl
  have q4 := at_cell (i := 4) H0.out rfl
  have q5 := at_cell (i := 5) H0.out rfl
  have q6 := at_cell (i := 6) H0.out rfl
  unfold maxLen at hft hfg
  simp only at hft hfg
  clear h hfd
  unfold rcells at *
  unfold rcv rsv at *
  rw [hq] at HNAME
  have d16 : decide ((n : Int) > 16) = false := decide_eq_false (by omega)
  obtain ⟨x, hx⟩ : ∃ x, x = g.length := ⟨_, rfl⟩
  rw [← hx] at hsg hfg h64
  have d64 : decide ((x : Int) > 64) = false := decide_eq_false (by omega)
  have he := tx_empty g hg
  have HG64 : Hid (g.length ≤ 64) := by show _ ≤ _; omega
  clear hg hx
  have HIFF : Hid (MayP 3 ⟨1, t, u, o, m, g⟩ l ↔ DepsP 3 ⟨1, t, u, o, m, g⟩ l) := ⟨fun h => by rcases h.2.2.2 with h | h; exact h.2.2.2; exact absurd h.1 (by simp), fun h => ⟨by omega, by omega, hq, .inl ⟨rfl, .inr (by omega), .inr ⟨by omega, HG64.out⟩, h⟩⟩⟩
  have H16 : Hid (n ≤ 16) := h16
  go_enter Try.func25, Try.ntmps25
  go_wp2_with (go_at_call 54; refine (HNAME.out _).mono ?_; rintro e w2 ⟨rfl, rfl⟩)
  go_loopw [5] (fun idx wr => OmRel 3 w (.cells #[.int .i64 1, .string (tx t), .int .u64 u, .slice A n c, .int .u64 o, .int .u64 m, .string (tx g)] 26) t l idx wr) (fun idx wr => n - (intOf idx).toNat)
  case atStart => exact ⟨0, by omega, rfl, by simp, by simp, HB0.out, H0.out, HS0.out⟩
  case round =>
    obtain ⟨i, hi, rfl, hok, hnd, hb, hbx, hz⟩ := hrel
    obtain ⟨wo, hwo⟩ : ∃ x, x = wr := ⟨wr, rfl⟩
    subst hwo
    have HOK := Lib.hid hok
    have HND := Lib.hid hnd
    have HBR := Lib.hid hb
    have HBX := Lib.hid hbx
    have HZ := Lib.hid hz
    rw [HL.out] at hi
    have b1 := at_cell (i := 1) hbx rfl
    have b3 := at_cell (i := 3) hbx rfl
    by_cases hlt : i < n
    · obtain ⟨y, hy⟩ : ∃ y, l[i]? = some y := ⟨_, List.getElem?_eq_getElem (by rw [HL.out]; exact hlt)⟩
      obtain ⟨ad, rfl, _, hcx⟩ := (H1.out.below hb).2 (by omega)
      obtain ⟨x0, x1, x2⟩ := dps_at l i y hy
      have k0 := hcx _ _ x0
      have k1 := hcx _ _ x1
      have k2 := hcx _ _ x2
      rw [add_one] at k1
      rw [add_two] at k2
      have hnb := one_new wo (.cells #[.string (tx y.name), .int .u64 y.hash, .bool y.order] 56)
      have p0 := at_cell (i := 0) hnb rfl
      have p2 := at_cell (i := 2) hnb rfl
      have hbn := Lib.hid (hb.alloc (by omega) (.cells #[.string (tx y.name), .int .u64 y.hash, .bool y.order] 56))
      have hbxn := Lib.hid ((Below.heap_alloc wo (.cells #[.string (tx y.name), .int .u64 y.hash, .bool y.order] 56) w.heap.size hz).trans hbx)
      have hzn : Hid (w.heap.size < (wo.alloc (.cells #[.string (tx y.name), .int .u64 y.hash, .bool y.order] 56)).heap.size) := by show w.heap.size < _; simp; omega
      have HNB := Lib.hid hnb
      have HNBZ : Hid (wo.heap.size < (wo.alloc (.cells #[.string (tx y.name), .int .u64 y.hash, .bool y.order] 56)).heap.size) := by show _ < _; simp
      have c1 := (World.cell?_alloc_lt wo (.cells #[.string (tx y.name), .int .u64 y.hash, .bool y.order] 56) ⟨w.heap.size, 1, none⟩ hz).trans b1
      have hname := Lib.hid (rname_any y.name)
      have hi0 : (0 : Int) ≤ (i : Int) := by omega
      have hi1 : (i : Int) < (n : Int) := by omega
      have HNM : Hid ((names l)[i]? = some y.name) := by show _ = _; unfold names; rw [List.getElem?_map, hy]; rfl
      have HIN : Hid (DepP 3 y → ∀ d ∈ l.take (i + 1), DepP 3 d) := fun hp d hd => by
        rw [List.take_add_one, hy, List.mem_append] at hd
        rcases hd with hd | hd
        · exact HOK.out d hd
        · simp at hd; subst hd; exact hp
      have HOUT : Hid (¬ DepP 3 y → ¬ MayP 3 ⟨1, t, u, o, m, g⟩ l) := fun hp hd => hp ((HIFF.out.1 hd).2.1 y (List.mem_of_getElem? hy))
      have HDUP : Hid (y.name = t ∨ y.name ∈ (names l).take i → ¬ MayP 3 ⟨1, t, u, o, m, g⟩ l) := fun hp hd => by
        have h1 := nodup_take (HIFF.out.1 hd).2.2 (i + 1)
        rw [List.take_add_one, HNM.out] at h1
        have h2 := nodup_snoc.1 h1
        rcases hp with hp | hp
        · exact h2.2.1 hp
        · exact h2.2.2 hp
      obtain ⟨xn, xh, xo⟩ := y
      unfold rsv at k0 hname
      simp only at k0 k1 k2 p0 p2 hbn hbxn hzn HNB HNBZ c1 hname HNM HDUP
      clear hcx x0 x1 x2 hok hnd hb hbx hnb hy
      cases hqn : isName xn
      · have HNO := Lib.hid (HOUT.out (fun hp => by have := hp.1; simp only at this; rw [hqn] at this; cases this))
        rw [hqn] at hname
        go_wp2_with (go_at_call 54; refine (hname.out _).mono ?_; rintro e w2 ⟨rfl, rfl⟩)
        go_ret
        exact ⟨tells_false HNO.out, hbn.out⟩
      rw [hqn] at hname
      by_cases het : xn = t
      · subst het
        have HNO := Lib.hid (HDUP.out (.inl rfl))
        have hlk := tx_like xn
        go_wp2_with (go_at_call 54; refine (hname.out _).mono ?_; rintro e w2 ⟨rfl, rfl⟩)
        go_ret
        exact ⟨tells_false HNO.out, hbn.out⟩
      have hun := tx_unlike het
      have HET := Lib.hid het
      clear het
      have HGO := Lib.hid (HIN.out ⟨hqn, fun h => by omega⟩)
      cases xo
      · go_wp2_with (go_at_call 54; refine (hname.out _).mono ?_; rintro e w2 ⟨rfl, rfl⟩)
        go_loopw [7] (fun idx wr => ImRel w (.cells #[.int .i64 1, .string (tx t), .int .u64 u, .slice (some ad) n c, .int .u64 o, .int .u64 m, .string (tx g)] 26) (.cells #[.string (tx xn), .int .u64 xh, .bool false] 56) wo.heap.size i xn l idx wr) (fun idx wr => i - (intOf idx).toNat)
        case atStart => exact ⟨0, by omega, rfl, by simp, hbn.out, hbxn.out, hzn.out, HNB.out, HNBZ.out⟩
        case round =>
          obtain ⟨j, hj, rfl, hnm, hb2, hbx2, hz2, hnb2, hnz2⟩ := hrel
          have HNM2 := Lib.hid hnm
          have HB2 := Lib.hid hb2
          have HBX2 := Lib.hid hbx2
          have HNB2 := Lib.hid hnb2
          have HZ2 := Lib.hid hz2
          have HNZ2 := Lib.hid hnz2
          have e3 := at_cell (i := 3) hbx2 rfl
          have e0 := at_cell (i := 0) hnb2 rfl
          by_cases hjlt : j < i
          · obtain ⟨z, hzz⟩ : ∃ z, l[j]? = some z := ⟨_, List.getElem?_eq_getElem (by rw [HL.out]; omega)⟩
            obtain ⟨ad', had, _, hcz⟩ := (H1.out.below hb2).2 (by omega)
            obtain rfl : ad = ad' := by injection had
            have m0 := hcz _ _ (dps_at l j z hzz).1
            have HNZ : Hid ((names l)[j]? = some z.name) := by show _ = _; unfold names; rw [List.getElem?_map, hzz]; rfl
            obtain ⟨zn, zh, zo⟩ := z
            unfold rsv at m0
            simp only at m0 HNZ
            have hj0 : (0 : Int) ≤ (j : Int) := by omega
            have hj1 : (j : Int) < (n : Int) := by omega
            clear hcz hzz hnm hb2 hbx2 hnb2 had
            by_cases hzx : zn = xn
            · subst hzx
              have hlk := tx_like zn
              have HNO := Lib.hid (HDUP.out (.inr (List.mem_of_getElem? (show ((names l).take i)[j]? = some zn by rw [List.getElem?_take, if_pos hjlt]; exact HNZ.out))))
              go_wp2_with fail
              refine wp_region_held (S := fun v1 => v1.heap = wr.heap) (by kernel_rfl) ?_
              have hS : wr.drew.heap = wr.heap := rfl
              refine h_take 0 (.pointer (some ⟨w.heap.size, 3, none⟩)) rfl (by kernel_rfl) (by kernel_rfl) (by kernel_rfl) (fun _ _ _ h => h) (by kernel_rfl) hS (fun _ _ => by kernel_rfl) ?_
              refine h_take 1 (.slice (some ad) n c) rfl (by kernel_rfl) (by kernel_rfl) (by kernel_rfl) (fun _ _ _ h => h) (by kernel_rfl) hS (by intro v1 hv; have q := (at_heap hv _).trans e3; go_simp) ?_
              refine h_take 2 (.int .i64 (j : Int)) rfl (by kernel_rfl) (by kernel_rfl) (by kernel_rfl) (fun _ _ _ h => h) (by kernel_rfl) hS (fun _ _ => by kernel_rfl) ?_
              refine h_take 3 (.pointer (some (ad.add (j * 3)))) rfl (by kernel_rfl) (by kernel_rfl) (by kernel_rfl) (fun _ _ _ h => h) (by kernel_rfl) hS (by intro v1 hv; go_simp) ?_
              refine h_take 4 (.pointer (some (ad.add (j * 3)))) rfl (by kernel_rfl) (by kernel_rfl) (by kernel_rfl) (fun _ _ _ h => h) (by kernel_rfl) hS (by intro v1 hv; go_simp) ?_
              refine h_take 5 (.string (tx zn)) rfl (by kernel_rfl) (by kernel_rfl) (by kernel_rfl) (fun _ _ _ h => h) (by kernel_rfl) hS (by intro v1 hv; have q := (at_heap hv _).trans m0; go_simp) ?_
              refine h_take 6 (.pointer (some ⟨wo.heap.size, 0, none⟩)) rfl (by kernel_rfl) (by kernel_rfl) (by kernel_rfl) (fun _ _ _ h => h) (by kernel_rfl) hS (fun _ _ => by kernel_rfl) ?_
              refine h_take 7 (.string (tx zn)) rfl (by kernel_rfl) (by kernel_rfl) (by kernel_rfl) (fun _ _ _ h => h) (by kernel_rfl) hS (by intro v1 hv; have q := (at_heap hv _).trans e0; go_simp) ?_
              refine h_take 8 (.bool true) rfl (by kernel_rfl) (by kernel_rfl) (by kernel_rfl) (fun _ _ _ h => h) (by kernel_rfl) hS (by intro v1 hv; go_simp) ?_
              refine wpAnyH_done (by kernel_rfl) ?_ _
              go_simp
              go_wp2
              go_ret
              exact ⟨tells_false HNO.out, HB2.out.drew⟩
            · have hul := tx_unlike hzx
              have HN2 : Hid (xn ∉ (names l).take (j + 1)) := fun h => by
                rw [List.take_add_one, HNZ.out, List.mem_append] at h
                rcases h with h | h
                · exact HNM2.out h
                · simp at h; exact hzx h.symm
              clear hzx
              go_wp2_with fail
              refine wp_region_held (S := fun v1 => v1.heap = wr.heap) (by kernel_rfl) ?_
              have hS : wr.drew.heap = wr.heap := rfl
              refine h_take 0 (.pointer (some ⟨w.heap.size, 3, none⟩)) rfl (by kernel_rfl) (by kernel_rfl) (by kernel_rfl) (fun _ _ _ h => h) (by kernel_rfl) hS (fun _ _ => by kernel_rfl) ?_
              refine h_take 1 (.slice (some ad) n c) rfl (by kernel_rfl) (by kernel_rfl) (by kernel_rfl) (fun _ _ _ h => h) (by kernel_rfl) hS (by intro v1 hv; have q := (at_heap hv _).trans e3; go_simp) ?_
              refine h_take 2 (.int .i64 (j : Int)) rfl (by kernel_rfl) (by kernel_rfl) (by kernel_rfl) (fun _ _ _ h => h) (by kernel_rfl) hS (fun _ _ => by kernel_rfl) ?_
              refine h_take 3 (.pointer (some (ad.add (j * 3)))) rfl (by kernel_rfl) (by kernel_rfl) (by kernel_rfl) (fun _ _ _ h => h) (by kernel_rfl) hS (by intro v1 hv; go_simp) ?_
              refine h_take 4 (.pointer (some (ad.add (j * 3)))) rfl (by kernel_rfl) (by kernel_rfl) (by kernel_rfl) (fun _ _ _ h => h) (by kernel_rfl) hS (by intro v1 hv; go_simp) ?_
              refine h_take 5 (.string (tx zn)) rfl (by kernel_rfl) (by kernel_rfl) (by kernel_rfl) (fun _ _ _ h => h) (by kernel_rfl) hS (by intro v1 hv; have q := (at_heap hv _).trans m0; go_simp) ?_
              refine h_take 6 (.pointer (some ⟨wo.heap.size, 0, none⟩)) rfl (by kernel_rfl) (by kernel_rfl) (by kernel_rfl) (fun _ _ _ h => h) (by kernel_rfl) hS (fun _ _ => by kernel_rfl) ?_
              refine h_take 7 (.string (tx xn)) rfl (by kernel_rfl) (by kernel_rfl) (by kernel_rfl) (fun _ _ _ h => h) (by kernel_rfl) hS (by intro v1 hv; have q := (at_heap hv _).trans e0; go_simp) ?_
              refine h_take 8 (.bool false) rfl (by kernel_rfl) (by kernel_rfl) (by kernel_rfl) (fun _ _ _ h => h) (by kernel_rfl) hS (by intro v1 hv; go_simp) ?_
              refine wpAnyH_done (by kernel_rfl) ?_ _
              go_simp
              go_wp2
              exact ⟨⟨j + 1, by omega, by go_num, HN2.out, HB2.out.drew, HBX2.out, HZ2.out, HNB2.out, HNZ2.out⟩, by simp [intOf]; omega⟩
          · obtain rfl : j = i := by omega
            have HND2 : Hid ((t :: (names l).take (j + 1)).Nodup) := by
              show List.Nodup _
              rw [List.take_add_one, HNM.out]
              exact nodup_snoc.2 ⟨HND.out, HET.out, HNM2.out⟩
            clear hnm hb2 hbx2 hnb2
            go_wp2
            exact ⟨⟨j + 1, by rw [HL.out]; omega, by go_num, HGO.out, HND2.out, HB2.out, HBX2.out, HZ2.out⟩, by simp [intOf]; omega⟩
      · go_wp2_with (go_at_call 54; refine (hname.out _).mono ?_; rintro e w2 ⟨rfl, rfl⟩)
        go_loopw [7] (fun idx wr => ImRel w (.cells #[.int .i64 1, .string (tx t), .int .u64 u, .slice (some ad) n c, .int .u64 o, .int .u64 m, .string (tx g)] 26) (.cells #[.string (tx xn), .int .u64 xh, .bool true] 56) wo.heap.size i xn l idx wr) (fun idx wr => i - (intOf idx).toNat)
        case atStart => exact ⟨0, by omega, rfl, by simp, hbn.out, hbxn.out, hzn.out, HNB.out, HNBZ.out⟩
        case round =>
          obtain ⟨j, hj, rfl, hnm, hb2, hbx2, hz2, hnb2, hnz2⟩ := hrel
          have HNM2 := Lib.hid hnm
          have HB2 := Lib.hid hb2
          have HBX2 := Lib.hid hbx2
          have HNB2 := Lib.hid hnb2
          have HZ2 := Lib.hid hz2
          have HNZ2 := Lib.hid hnz2
          have e3 := at_cell (i := 3) hbx2 rfl
          have e0 := at_cell (i := 0) hnb2 rfl
          by_cases hjlt : j < i
          · obtain ⟨z, hzz⟩ : ∃ z, l[j]? = some z := ⟨_, List.getElem?_eq_getElem (by rw [HL.out]; omega)⟩
            obtain ⟨ad', had, _, hcz⟩ := (H1.out.below hb2).2 (by omega)
            obtain rfl : ad = ad' := by injection had
            have m0 := hcz _ _ (dps_at l j z hzz).1
            have HNZ : Hid ((names l)[j]? = some z.name) := by show _ = _; unfold names; rw [List.getElem?_map, hzz]; rfl
            obtain ⟨zn, zh, zo⟩ := z
            unfold rsv at m0
            simp only at m0 HNZ
            have hj0 : (0 : Int) ≤ (j : Int) := by omega
            have hj1 : (j : Int) < (n : Int) := by omega
            clear hcz hzz hnm hb2 hbx2 hnb2 had
            by_cases hzx : zn = xn
            · subst hzx
              have hlk := tx_like zn
              have HNO := Lib.hid (HDUP.out (.inr (List.mem_of_getElem? (show ((names l).take i)[j]? = some zn by rw [List.getElem?_take, if_pos hjlt]; exact HNZ.out))))
              go_wp2_with fail
              refine wp_region_held (S := fun v1 => v1.heap = wr.heap) (by kernel_rfl) ?_
              have hS : wr.drew.heap = wr.heap := rfl
              refine h_take 0 (.pointer (some ⟨w.heap.size, 3, none⟩)) rfl (by kernel_rfl) (by kernel_rfl) (by kernel_rfl) (fun _ _ _ h => h) (by kernel_rfl) hS (fun _ _ => by kernel_rfl) ?_
              refine h_take 1 (.slice (some ad) n c) rfl (by kernel_rfl) (by kernel_rfl) (by kernel_rfl) (fun _ _ _ h => h) (by kernel_rfl) hS (by intro v1 hv; have q := (at_heap hv _).trans e3; go_simp) ?_
              refine h_take 2 (.int .i64 (j : Int)) rfl (by kernel_rfl) (by kernel_rfl) (by kernel_rfl) (fun _ _ _ h => h) (by kernel_rfl) hS (fun _ _ => by kernel_rfl) ?_
              refine h_take 3 (.pointer (some (ad.add (j * 3)))) rfl (by kernel_rfl) (by kernel_rfl) (by kernel_rfl) (fun _ _ _ h => h) (by kernel_rfl) hS (by intro v1 hv; go_simp) ?_
              refine h_take 4 (.pointer (some (ad.add (j * 3)))) rfl (by kernel_rfl) (by kernel_rfl) (by kernel_rfl) (fun _ _ _ h => h) (by kernel_rfl) hS (by intro v1 hv; go_simp) ?_
              refine h_take 5 (.string (tx zn)) rfl (by kernel_rfl) (by kernel_rfl) (by kernel_rfl) (fun _ _ _ h => h) (by kernel_rfl) hS (by intro v1 hv; have q := (at_heap hv _).trans m0; go_simp) ?_
              refine h_take 6 (.pointer (some ⟨wo.heap.size, 0, none⟩)) rfl (by kernel_rfl) (by kernel_rfl) (by kernel_rfl) (fun _ _ _ h => h) (by kernel_rfl) hS (fun _ _ => by kernel_rfl) ?_
              refine h_take 7 (.string (tx zn)) rfl (by kernel_rfl) (by kernel_rfl) (by kernel_rfl) (fun _ _ _ h => h) (by kernel_rfl) hS (by intro v1 hv; have q := (at_heap hv _).trans e0; go_simp) ?_
              refine h_take 8 (.bool true) rfl (by kernel_rfl) (by kernel_rfl) (by kernel_rfl) (fun _ _ _ h => h) (by kernel_rfl) hS (by intro v1 hv; go_simp) ?_
              refine wpAnyH_done (by kernel_rfl) ?_ _
              go_simp
              go_wp2
              go_ret
              exact ⟨tells_false HNO.out, HB2.out.drew⟩
            · have hul := tx_unlike hzx
              have HN2 : Hid (xn ∉ (names l).take (j + 1)) := fun h => by
                rw [List.take_add_one, HNZ.out, List.mem_append] at h
                rcases h with h | h
                · exact HNM2.out h
                · simp at h; exact hzx h.symm
              clear hzx
              go_wp2_with fail
              refine wp_region_held (S := fun v1 => v1.heap = wr.heap) (by kernel_rfl) ?_
              have hS : wr.drew.heap = wr.heap := rfl
              refine h_take 0 (.pointer (some ⟨w.heap.size, 3, none⟩)) rfl (by kernel_rfl) (by kernel_rfl) (by kernel_rfl) (fun _ _ _ h => h) (by kernel_rfl) hS (fun _ _ => by kernel_rfl) ?_
              refine h_take 1 (.slice (some ad) n c) rfl (by kernel_rfl) (by kernel_rfl) (by kernel_rfl) (fun _ _ _ h => h) (by kernel_rfl) hS (by intro v1 hv; have q := (at_heap hv _).trans e3; go_simp) ?_
              refine h_take 2 (.int .i64 (j : Int)) rfl (by kernel_rfl) (by kernel_rfl) (by kernel_rfl) (fun _ _ _ h => h) (by kernel_rfl) hS (fun _ _ => by kernel_rfl) ?_
              refine h_take 3 (.pointer (some (ad.add (j * 3)))) rfl (by kernel_rfl) (by kernel_rfl) (by kernel_rfl) (fun _ _ _ h => h) (by kernel_rfl) hS (by intro v1 hv; go_simp) ?_
              refine h_take 4 (.pointer (some (ad.add (j * 3)))) rfl (by kernel_rfl) (by kernel_rfl) (by kernel_rfl) (fun _ _ _ h => h) (by kernel_rfl) hS (by intro v1 hv; go_simp) ?_
              refine h_take 5 (.string (tx zn)) rfl (by kernel_rfl) (by kernel_rfl) (by kernel_rfl) (fun _ _ _ h => h) (by kernel_rfl) hS (by intro v1 hv; have q := (at_heap hv _).trans m0; go_simp) ?_
              refine h_take 6 (.pointer (some ⟨wo.heap.size, 0, none⟩)) rfl (by kernel_rfl) (by kernel_rfl) (by kernel_rfl) (fun _ _ _ h => h) (by kernel_rfl) hS (fun _ _ => by kernel_rfl) ?_
              refine h_take 7 (.string (tx xn)) rfl (by kernel_rfl) (by kernel_rfl) (by kernel_rfl) (fun _ _ _ h => h) (by kernel_rfl) hS (by intro v1 hv; have q := (at_heap hv _).trans e0; go_simp) ?_
              refine h_take 8 (.bool false) rfl (by kernel_rfl) (by kernel_rfl) (by kernel_rfl) (fun _ _ _ h => h) (by kernel_rfl) hS (by intro v1 hv; go_simp) ?_
              refine wpAnyH_done (by kernel_rfl) ?_ _
              go_simp
              go_wp2
              exact ⟨⟨j + 1, by omega, by go_num, HN2.out, HB2.out.drew, HBX2.out, HZ2.out, HNB2.out, HNZ2.out⟩, by simp [intOf]; omega⟩
          · obtain rfl : j = i := by omega
            have HND2 : Hid ((t :: (names l).take (j + 1)).Nodup) := by
              show List.Nodup _
              rw [List.take_add_one, HNM.out]
              exact nodup_snoc.2 ⟨HND.out, HET.out, HNM2.out⟩
            clear hnm hb2 hbx2 hnb2
            go_wp2
            exact ⟨⟨j + 1, by rw [HL.out]; omega, by go_num, HGO.out, HND2.out, HB2.out, HBX2.out, HZ2.out⟩, by simp [intOf]; omega⟩
    · obtain rfl : i = n := by omega
      rw [List.take_of_length_le (by rw [HL.out]; omega)] at HOK
      rw [List.take_of_length_le (by unfold names; rw [List.length_map, HL.out]; omega)] at HND
      have HP : Hid (MayP 3 ⟨1, t, u, o, m, g⟩ l) := HIFF.out.2 ⟨by rw [HL.out]; exact H16.out, HOK.out, HND.out⟩
      clear hok hnd hb hbx
      go_wp2
      go_ret
      exact ⟨tells_true HP.out, HBR.out⟩

end Go.Proofs.Ytfidfhajnobonaa

/- The document's May. -/
namespace Go.Proofs.Ytfidfhajnobonaa
open Go.RowKit

set_option maxRecDepth 100000 in
set_option maxHeartbeats 2000000 in
theorem rmay_any (v : Int) (r : Rc) (A : Option Addr) (n c : Nat) (l : List Dp) (hn : n ≤ 1000) (hfit : Fits r l) (w : World) (h : Reads w w.heap.size 3 A n (dps l)) :
    Calls Try.prog 25 #[.int .i64 v, rcv r A n c] w fun e w' => Tells (MayP v r l) e ∧ Below w.heap.size w w' := by
  have HL : Hid (l.length = n) := by have := h.1; rw [dps_len] at this; show _ = _; omega
  have H1 := Lib.hid h
  have H0 := Lib.hid (one_new w (.cells (rcells r A n c) 26))
  have HB0 := Lib.hid ((Below.refl w.heap.size w).alloc (Nat.le_refl _) (.cells (rcells r A n c) 26))
  have HS0 : Hid (w.heap.size < (w.alloc (.cells (rcells r A n c) 26)).heap.size) := by show w.heap.size < _; simp
  obtain ⟨k, t, u, o, m, g⟩ := r
  have hst := tx_size0 t
  have hsg := tx_size0 g
  obtain ⟨hft, hfg, hfd⟩ := hfit
  have HFD := Lib.hid hfd
  have HNAME := Lib.hid (rname_any t)
  have q0 := at_cell (i := 0) H0.out rfl
  have q1 := at_cell (i := 1) H0.out rfl
  have q2 := at_cell (i := 2) H0.out rfl
  have q3 := at_cell (i := 3) H0.out rfl
  have q4 := at_cell (i := 4) H0.out rfl
  have q5 := at_cell (i := 5) H0.out rfl
  have q6 := at_cell (i := 6) H0.out rfl
  unfold maxLen at hft hfg
  simp only at hft hfg
  have HH := Lib.hid h
  have HFIT : Hid (Fits ⟨k, t, u, o, m, g⟩ l) := ⟨hft, hfg, hfd⟩
  clear h hfd
  unfold rcells at *
  unfold rcv rsv at *
  by_cases hv1 : v < 1
  · have d1 : decide (v < 1) = true := decide_eq_true hv1
    have HP : Hid (¬ MayP v ⟨k, t, u, o, m, g⟩ l) := fun h => by have := h.1; omega
    go_enter Try.func25, Try.ntmps25
    go_wp2
    go_ret
    exact ⟨tells_false HP.out, HB0.out⟩
  have d1 : decide (v < 1) = false := decide_eq_false hv1
  by_cases hv3 : 3 < v
  · have d3 : decide (v > 3) = true := decide_eq_true hv3
    have HP : Hid (¬ MayP v ⟨k, t, u, o, m, g⟩ l) := fun h => by have := h.2.1; omega
    go_enter Try.func25, Try.ntmps25
    go_wp2
    go_ret
    exact ⟨tells_false HP.out, HB0.out⟩
  have d3 : decide (v > 3) = false := decide_eq_false hv3
  cases hq : isName t
  · rw [hq] at HNAME
    have HP : Hid (¬ MayP v ⟨k, t, u, o, m, g⟩ l) := fun h => by have h2 : isName t = true := h.2.2.1; rw [hq] at h2; cases h2
    go_enter Try.func25, Try.ntmps25
    go_wp2_with (go_at_call 54; refine (HNAME.out _).mono ?_; rintro e w2 ⟨rfl, rfl⟩)
    go_ret
    exact ⟨tells_false HP.out, HB0.out⟩
  rw [hq] at HNAME
  by_cases hk2 : k = 2
  · subst hk2
    by_cases hu : u = 0
    · subst hu
      by_cases hn0 : n = 0
      · subst hn0
        by_cases ho : o = 0
        · subst ho
          by_cases hm : m = 0
          · subst hm
            by_cases hg : g = []
            · subst hg
              have he : (tx ([] : List UInt8)).toList = [] := by simp [tx]
              have HP : Hid (MayP v ⟨2, t, 0, 0, 0, []⟩ l) := ⟨by omega, by omega, hq, .inr ⟨rfl, rfl, List.eq_nil_of_length_eq_zero HL.out⟩⟩
              go_enter Try.func25, Try.ntmps25
              go_wp2_with (go_at_call 54; refine (HNAME.out _).mono ?_; rintro e w2 ⟨rfl, rfl⟩)
              go_ret
              exact ⟨tells_true HP.out, HB0.out⟩
            · have he := tx_empty g hg
              have HP : Hid (¬ MayP v ⟨2, t, 0, 0, 0, g⟩ l) := fun h => by rcases h.2.2.2 with h | h; exact absurd h.1 (by simp); have h2 := h.2; exact hg (by have h3 := h2.1; injection h3)
              go_enter Try.func25, Try.ntmps25
              go_wp2_with (go_at_call 54; refine (HNAME.out _).mono ?_; rintro e w2 ⟨rfl, rfl⟩)
              go_ret
              exact ⟨tells_false HP.out, HB0.out⟩
          · have em : decide (m = 0) = false := decide_eq_false hm
            have fm : (m == 0) = false := by rw [beq_eq_false_iff_ne]; exact hm
            have HP : Hid (¬ MayP v ⟨2, t, 0, 0, m, g⟩ l) := fun h => by rcases h.2.2.2 with h | h; exact absurd h.1 (by simp); have h2 := h.2; exact hm (by have h3 := h2.1; injection h3)
            go_enter Try.func25, Try.ntmps25
            go_wp2_with (go_at_call 54; refine (HNAME.out _).mono ?_; rintro e w2 ⟨rfl, rfl⟩)
            go_ret
            exact ⟨tells_false HP.out, HB0.out⟩
        · have eo : decide (o = 0) = false := decide_eq_false ho
          have fo : (o == 0) = false := by rw [beq_eq_false_iff_ne]; exact ho
          have HP : Hid (¬ MayP v ⟨2, t, 0, o, m, g⟩ l) := fun h => by rcases h.2.2.2 with h | h; exact absurd h.1 (by simp); have h2 := h.2; exact ho (by have h3 := h2.1; injection h3)
          go_enter Try.func25, Try.ntmps25
          go_wp2_with (go_at_call 54; refine (HNAME.out _).mono ?_; rintro e w2 ⟨rfl, rfl⟩)
          go_ret
          exact ⟨tells_false HP.out, HB0.out⟩
      · have e6 : decide ((n : Int) = 0) = false := decide_eq_false (by omega)
        have f6 : ((n : Int) == 0) = false := by rw [beq_eq_false_iff_ne]; omega
        have HP : Hid (¬ MayP v ⟨2, t, 0, o, m, g⟩ l) := fun h => by rcases h.2.2.2 with h | h; exact absurd h.1 (by simp); have h2 := h.2; exact hn0 (by rw [← HL.out, h2.2]; rfl)
        go_enter Try.func25, Try.ntmps25
        go_wp2_with (go_at_call 54; refine (HNAME.out _).mono ?_; rintro e w2 ⟨rfl, rfl⟩)
        go_ret
        exact ⟨tells_false HP.out, HB0.out⟩
    · have eu : decide (u = 0) = false := decide_eq_false hu
      have fu : (u == 0) = false := by rw [beq_eq_false_iff_ne]; exact hu
      have HP : Hid (¬ MayP v ⟨2, t, u, o, m, g⟩ l) := fun h => by rcases h.2.2.2 with h | h; exact absurd h.1 (by simp); have h2 := h.2; exact hu (by have h3 := h2.1; injection h3)
      go_enter Try.func25, Try.ntmps25
      go_wp2_with (go_at_call 54; refine (HNAME.out _).mono ?_; rintro e w2 ⟨rfl, rfl⟩)
      go_ret
      exact ⟨tells_false HP.out, HB0.out⟩
  have dk2 : decide (k = 2) = false := decide_eq_false hk2
  have ek2 : (k == 2) = false := by rw [beq_eq_false_iff_ne]; exact hk2
  by_cases hk1 : k = 1
  · subst hk1
    clear hk2 dk2 ek2
    by_cases h16 : 16 < n
    · have d16 : decide ((n : Int) > 16) = true := decide_eq_true (by omega)
      have HP : Hid (¬ MayP v ⟨1, t, u, o, m, g⟩ l) := fun h => by rcases h.2.2.2 with h | h; have h3 := h.2.2.2.1; rw [HL.out] at h3; omega; exact absurd h.1 (by simp)
      go_enter Try.func25, Try.ntmps25
      go_wp2_with (go_at_call 54; refine (HNAME.out _).mono ?_; rintro e w2 ⟨rfl, rfl⟩)
      go_ret
      exact ⟨tells_false HP.out, HB0.out⟩
    have d16 : decide ((n : Int) > 16) = false := decide_eq_false (by omega)
    obtain ⟨x, hx⟩ : ∃ x, x = g.length := ⟨_, rfl⟩
    rw [← hx] at hsg hfg
    have HX := Lib.hid hx
    clear hx
    by_cases h64 : 64 < x
    · have d64 : decide ((x : Int) > 64) = true := decide_eq_true (by omega)
      have HP : Hid (¬ MayP v ⟨1, t, u, o, m, g⟩ l) := fun h => by rcases h.2.2.2 with h | h; rcases h.2.2.1 with h3 | h3; (have h4 := HX.out; simp only at h3; rw [h3] at h4; simp at h4; omega); (have h4 := HX.out; have h5 := h3.2; simp only at h5; omega); exact absurd h.1 (by simp)
      go_enter Try.func25, Try.ntmps25
      go_wp2_with (go_at_call 54; refine (HNAME.out _).mono ?_; rintro e w2 ⟨rfl, rfl⟩)
      go_ret
      exact ⟨tells_false HP.out, HB0.out⟩
    have d64 : decide ((x : Int) > 64) = false := decide_eq_false (by omega)
    by_cases hT : TimeP v ⟨1, t, u, o, m, g⟩
    rotate_left
    · have hm : m ≠ 0 := fun h => hT (.inl h)
      have hv : v = 1 := by have h2 : ¬ 2 ≤ v := fun h => hT (.inr h); omega
      subst hv
      have em : (m != 0) = true := by rw [bne_iff_ne]; exact hm
      have em2 : decide (m = 0) = false := decide_eq_false hm
      have em3 : (m == 0) = false := by rw [beq_eq_false_iff_ne]; exact hm
      have HP : Hid (¬ MayP 1 ⟨1, t, u, o, m, g⟩ l) := fun h => by rcases h.2.2.2 with h | h; exact hT h.2.1; exact absurd h.1 (by simp)
      go_enter Try.func25, Try.ntmps25
      go_wp2_with (go_at_call 54; refine (HNAME.out _).mono ?_; rintro e w2 ⟨rfl, rfl⟩)
      go_ret
      exact ⟨tells_false HP.out, HB0.out⟩
    by_cases hG : TagP v ⟨1, t, u, o, m, g⟩
    rotate_left
    · have hg : g ≠ [] := fun h => hG (.inl h)
      have hv : v < 3 := by
        rcases Int.lt_or_le v 3 with h3 | h3
        · exact h3
        · exact absurd (.inr ⟨h3, by have := HX.out; simp only; omega⟩) hG
      have he := tx_empty g hg
      have dv3 : decide (v < 3) = true := decide_eq_true hv
      have HP : Hid (¬ MayP v ⟨1, t, u, o, m, g⟩ l) := fun h => by rcases h.2.2.2 with h | h; exact hG h.2.2.1; exact absurd h.1 (by simp)
      by_cases hv1' : v = 1
      · have hm : m = 0 := by
          rcases hT with h | h
          · exact h
          · omega
        subst hv1'; subst hm
        clear hT hG
        go_enter Try.func25, Try.ntmps25
        go_wp2_with (go_at_call 54; refine (HNAME.out _).mono ?_; rintro e w2 ⟨rfl, rfl⟩)
        go_ret
        exact ⟨tells_false HP.out, HB0.out⟩
      · have ev : decide (v = 1) = false := decide_eq_false hv1'
        have ev2 : (v == 1) = false := by rw [beq_eq_false_iff_ne]; exact hv1'
        clear hT hG
        go_enter Try.func25, Try.ntmps25
        go_wp2_with (go_at_call 54; refine (HNAME.out _).mono ?_; rintro e w2 ⟨rfl, rfl⟩)
        go_ret
        exact ⟨tells_false HP.out, HB0.out⟩
    rcases hG with hg | hg
    · simp only at hg
      subst hg
      rcases hT with hm | hm
      · simp only at hm
        subst hm
        by_cases hv1' : v = 1
        · subst hv1'
          exact rmay_l1 t u o A n c l hn HFIT.out hq (by omega) w HH.out
        · by_cases hv2' : v = 2
          · subst hv2'
            exact rmay_l2 t u o 0 A n c l hn HFIT.out hq (by omega) w HH.out
          · obtain rfl : v = 3 := by omega
            exact rmay_l3 t u o 0 A n c l hn HFIT.out hq (by omega) w HH.out
      · by_cases hv2' : v = 2
        · subst hv2'
          exact rmay_l2 t u o m A n c l hn HFIT.out hq (by omega) w HH.out
        · obtain rfl : v = 3 := by omega
          exact rmay_l3 t u o m A n c l hn HFIT.out hq (by omega) w HH.out
    · obtain rfl : v = 3 := by have := hg.1; omega
      by_cases hge : g = []
      · subst hge
        exact rmay_l3 t u o m A n c l hn HFIT.out hq (by omega) w HH.out
      · exact rmay_l4 t u o m g A n c l hn HFIT.out hq (by omega) hge hg.2 w HH.out
  · have dk1 : (k != 1) = true := by rw [bne_iff_ne]; exact hk1
    have dk3 : decide (k = 1) = false := decide_eq_false hk1
    have dk4 : (k == 1) = false := by rw [beq_eq_false_iff_ne]; exact hk1
    have HP : Hid (¬ MayP v ⟨k, t, u, o, m, g⟩ l) := fun h => by rcases h.2.2.2 with h | h; exact hk1 h.1; exact hk2 h.1
    go_enter Try.func25, Try.ntmps25
    go_wp2_with (go_at_call 54; refine (HNAME.out _).mono ?_; rintro e w2 ⟨rfl, rfl⟩)
    go_ret
    exact ⟨tells_false HP.out, HB0.out⟩

end Go.Proofs.Ytfidfhajnobonaa

/- The document's Names. -/
namespace Go.Proofs.Ytfidfhajnobonaa
open Go.RowKit

set_option maxRecDepth 100000 in
set_option maxHeartbeats 2000000 in
theorem rnames_any (r : Rc) (A : Option Addr) (n c : Nat) (l : List Dp) (hn : n ≤ 1000) (w : World) (h : Reads w w.heap.size 3 A n (dps l)) :
    Calls Try.prog 26 #[rcv r A n c] w fun e w' => ∃ v, e = .returned v ∧ Own w' w.heap.size v (rnames r l) ∧ Below w.heap.size w w' := by
  obtain ⟨is, his, his0, his1, his2⟩ := info_parts tinfo
  have HL : Hid (l.length = n) := by have := h.1; rw [dps_len] at this; show _ = _; omega
  have hz : (w.alloc (.cells (rcells r A n c) 26)).heap.size = w.heap.size + 1 := by simp
  have h0 := one_new w (.cells (rcells r A n c) 26)
  have HB0 := Lib.hid ((Below.refl w.heap.size w).alloc (Nat.le_refl _) (.cells (rcells r A n c) 26))
  have HO0 : Hid (((w.alloc (.cells (rcells r A n c) 26)).alloc (.cells #[.string (tx r.target)] 9)).ownsRow (w.heap.size + 1) 9 1 (.slice (some ⟨w.heap.size + 1, 0, none⟩) 1 1) 1 [.string (tx r.target)]) :=
    ownsRow_of_block (cs := [.string (tx r.target)]) (Nat.le_refl _) (by have := one_new (w.alloc (.cells (rcells r A n c) 26)) (.cells #[.string (tx r.target)] 9); rw [hz] at this; exact this) (Nat.le_refl _) (by unfold maxLen; omega) rfl rfl
  have HS0 : Hid (Below (w.heap.size + 1) (w.alloc (.cells (rcells r A n c) 26)) ((w.alloc (.cells (rcells r A n c) 26)).alloc (.cells #[.string (tx r.target)] 9))) := (Below.refl _ _).alloc (by rw [hz]; exact Nat.le_refl _) _
  have H1 := Lib.hid h
  have H0 := Lib.hid h0
  have HZ := Lib.hid hz
  have q1 := at_cell (i := 1) h0 rfl
  obtain ⟨k, t, u, o, m, g⟩ := r
  clear h h0 hz
  unfold rcells at *
  unfold rcv rsv
  go_enter Try.func26, Try.ntmps26
  go_wp2
  generalize hW0 : w.alloc (.cells #[.int .i64 k, .string (tx t), .int .u64 u, .slice A n c, .int .u64 o, .int .u64 m, .string (tx g)] 26) = W0 at *
  clear hW0
  go_loopw [3, 4] (fun v idx wr => ∃ i : Nat, i ≤ n ∧ idx = .int .i64 (i : Int) ∧ Own wr (w.heap.size + 1) v (t :: (names l).take i) ∧ Below (w.heap.size + 1) W0 wr) (fun v idx wr => n - (intOf idx).toNat)
  case atStart => exact ⟨0, by omega, rfl, by simpa [Own, tsv] using HO0.out, HS0.out⟩
  case round =>
    obtain ⟨i, hi, rfl, ho, hb⟩ := hrel
    have HO := Lib.hid ho
    have HBS := Lib.hid hb
    have HBR := Lib.hid (HB0.out.trans (hb.mono (by omega)))
    have hnl : (names l).length = n := by unfold names; rw [List.length_map]; exact HL.out
    have hlen : (t :: (names l).take i).length = i + 1 := by rw [List.length_cons, List.length_take]; omega
    have q3 := (hb.cell (p := ⟨w.heap.size, 3, none⟩) (show w.heap.size < w.heap.size + 1 by omega)).trans (at_cell (i := 3) H0.out rfl)
    have q6 := (hb.cell (p := ⟨w.heap.size, 6, none⟩) (show w.heap.size < w.heap.size + 1 by omega)).trans (at_cell (i := 6) H0.out rfl)
    have hwr : w.heap.size + 1 ≤ wr.heap.size := by have := hb.size; have := HZ.out; omega
    have HWR := Lib.hid hwr
    by_cases hlt : i < n
    · obtain ⟨x, hx⟩ : ∃ x, l[i]? = some x := ⟨_, List.getElem?_eq_getElem (by rw [HL.out]; exact hlt)⟩
      obtain ⟨ad, rfl, _, hcx⟩ := (H1.out.below HBR.out).2 (by omega)
      obtain ⟨x0, x1, x2⟩ := dps_at l i x hx
      have k0 := hcx _ _ x0
      have htk : Hid ((t :: (names l).take i) ++ [x.name] = t :: (names l).take (i + 1)) := by
        show _ = _
        rw [List.take_add_one]; unfold names; rw [List.getElem?_map, hx]; rfl
      have hown := ho; unfold Own at hown; rw [hlen] at hown
      have HOW := Lib.hid hown
      have hi0 : (0 : Int) ≤ (i : Int) := by omega
      have hi1 : (i : Int) < (n : Int) := by omega
      obtain ⟨xn, xh, xo⟩ := x
      unfold rsv at k0
      simp only at k0 htk
      clear hcx x0 x1 x2 hx ho hb hown hnl hlen
      go_wp2_with (at_builtin; refine wpList_append_own _ rfl (.tmp 15) (.tmp 22) 22 rfl (w.heap.size + 1) 9 is (.string { data := #[] }) 1 16 Try.underlying22 his his0 his1 his2 rfl (by decide) _ (i + 1) _ rfl (HOW.out.alloc _) ⟨wr.heap.size, 0, none⟩ 1 1 [.string (tx xn)] rfl rfl (cell_one_new _ _ _) (by simp [Value.oneCell']) (by unfold maxLen; omega) (by omega) (by have := HWR.out; simp; omega) ?_; intro v3 w3 ho3 hg3 _; have HO3 := Lib.hid ho3; have HG3 := Lib.hid hg3; clear ho3 hg3)
      refine ⟨⟨i + 1, by omega, by go_num, ?_, (HBS.out.alloc HWR.out _).grown HG3.out (by simp; have := HWR.out; omega) (own_block HOW.out)⟩, by simp [intOf]; omega⟩
      have h4 := HO3.out
      unfold Own
      rw [← htk.out, List.length_append, List.map_append]
      have hnl : (names l).length = n := by unfold names; rw [List.length_map]; exact HL.out
      rw [show (t :: (names l).take i).length = i + 1 from by rw [List.length_cons, List.length_take]; omega]
      exact h4
    · obtain rfl : i = n := by omega
      rw [List.take_of_length_le (by omega)] at ho hlen
      have hown := ho; unfold Own at hown; rw [hlen] at hown
      have HOW := Lib.hid hown
      by_cases hg : g = []
      · subst hg
        have he : (tx ([] : List UInt8)).toList = [] := by simp [tx]
        have hT : Hid (tnew (t :: names l) = rnames ⟨k, t, u, o, m, []⟩ l) := by show _ = _; unfold rnames; simp
        obtain ⟨A2, c2, rfl, _, hr2⟩ := own_reads hown
        have HNEW := Lib.hid (rnew_any A2 (i + 1) c2 (t :: names l) (by omega) wr hr2)
        rw [hT.out] at HNEW
        clear ho hb hown hnl hlen hr2
        go_wp2_with (go_at_call 13; refine HNEW.out.mono ?_; rintro e w4 ⟨v4, rfl, ho4, hb4⟩)
        go_ret
        exact ⟨v4, rfl, ho4.less (by have := HWR.out; omega), HBR.out.trans (hb4.mono (by have := HWR.out; omega))⟩
      · have he := tx_empty g hg
        have hT : Hid (tnew (t :: names l ++ [g]) = rnames ⟨k, t, u, o, m, g⟩ l) := by show _ = _; unfold rnames; simp only [if_neg hg]
        clear ho hb hown hnl hlen hg
        go_wp2_with (first
          | (go_at_call 13; have hk := HB3.out.size; refine HNEW.out.mono ?_; rintro e w4 ⟨v4, rfl, ho4, hb4⟩)
          | (at_builtin; refine wpList_append_own _ rfl (.tmp 27) (.tmp 30) 22 rfl (w.heap.size + 1) 9 is (.string { data := #[] }) 1 16 Try.underlying22 his his0 his1 his2 rfl (by decide) _ (i + 1) _ rfl (HOW.out.alloc _) ⟨wr.heap.size, 0, none⟩ 1 1 [.string (tx g)] rfl rfl (cell_one_new _ _ _) (by simp [Value.oneCell']) (by unfold maxLen; omega) (by omega) (by have := HWR.out; simp; omega) ?_; intro v3 w3 ho3 hg3 _; have HB3 := Lib.hid ((HBR.out.alloc HBR.out.size (.cells #[.string (tx g)] 9)).grown hg3 (by simp; have := HWR.out; omega) (fun g hg => by have := own_block HOW.out g hg; omega)); obtain ⟨A3, c3, rfl, _, hr3⟩ := own_reads ho3; rw [show (t :: names l).map tsv ++ [.string (tx g)] = (t :: names l ++ [g]).map tsv from by simp [tsv]] at hr3; have HNEW := Lib.hid (rnew_any A3 (i + 1 + 1) c3 (t :: names l ++ [g]) (by omega) w3 hr3); rw [hT.out] at HNEW; clear ho3 hg3 hr3))
        go_ret
        exact ⟨v4, rfl, ho4.less HB3.out.size, HB3.out.trans (hb4.mono HB3.out.size)⟩

end Go.Proofs.Ytfidfhajnobonaa

/- The document's way to lay a text; which rows stay apart. -/
namespace Go.Proofs.Ytfidfhajnobonaa
open Go.RowKit

theorem tplace_in {l : List (List UInt8)} {s : List UInt8} (h : s ∈ l) : tplace l s = (tnum l s : Int) := by
  unfold tplace tnum
  rw [if_pos h]
  simp [h]
theorem tplace_out {l : List (List UInt8)} {s : List UInt8} (h : s ∉ l) : tplace l s = -1 := by
  unfold tplace
  rw [if_neg h]

set_option maxRecDepth 100000 in
theorem doctext_any (ver : Int) (hv : 1 ≤ ver) (L : Option Addr) (n c : Nat) (l : List (List UInt8)) (s : List UInt8) (hs : s.length ≤ 300) (hin : ver < 2 ∨ s ∈ l) (hl : l.length ≤ 1000000) (w : World) (hr : Reads w w.heap.size 1 L n (l.map tsv)) :
    Calls Try.prog 30 #[.int .i64 ver, .slice L n c, .string (tx s)] w fun e w' => e = .returned (.string (tx (nmB ver l s))) ∧ Below w.heap.size w w' := by
  have hn : n ≤ 1000000 := by have := hr.1; simp at this; omega
  by_cases h1 : ver < 2
  · obtain rfl : ver = 1 := by omega
    have he : nmB 1 l s = blob s := by unfold nmB; rw [if_pos (by omega)]
    rw [he]
    have HP := Lib.hid (fun W => rbput_any s (by omega) W)
    go_enter Try.func30, Try.ntmps30
    go_wp2_with fail
    refine (HP.out _).mono ?_
    rintro e w3 ⟨rfl, hb3⟩
    go_wp2
    go_ret
    exact ⟨rfl, hb3⟩
  · have hin' : s ∈ l := hin.resolve_left h1
    have he : nmB ver l s = vb (tnum l s) := by unfold nmB; rw [if_neg h1]
    rw [he]
    have hlt := tnum_lt hin'
    have hpl := place_any L n c l s (by omega) w hr
    rw [tplace_in hin'] at hpl
    have hput := fun W => refput_any (tnum l s) (by unfold top; omega) W
    generalize tnum l s = k at *
    have HP := Lib.hid hpl
    have HU := Lib.hid hput
    unfold tsv at HP
    have h2 : (ver == 1) = false := by rw [beq_eq_false_iff_ne]; omega
    have hk0 : (0 : Int) ≤ (k : Int) := by omega
    have hk1 : (k : Int) ≤ 1000000 := by omega
    clear hpl hput he hr hin
    go_enter Try.func30, Try.ntmps30
    go_wp2_with fail
    refine HP.out.mono ?_
    rintro e w3 ⟨rfl, rfl⟩
    go_wp2_with fail
    refine (HU.out _).mono ?_
    rintro e w4 ⟨rfl, hb4⟩
    go_wp2
    go_ret
    exact ⟨rfl, hb4⟩

theorem apart_told {w : World} {b n size : Nat} {e : TypeId} {v v' x : Value} {xs : List Value} (h : Apart v x) (hx : w.ownsRow b e size x n xs) (hv : v'.ownBlock = v.ownBlock ∨ v'.ownBlock = some w.heap.size) : Apart v' x := by
  intro g hg h2
  rcases hv with e | e
  · exact h g (e ▸ hg) h2
  · rw [e] at hg
    obtain rfl : w.heap.size = g := by simpa using hg
    have := own_lt hx _ h2
    omega
theorem apart_up {w : World} {b n size : Nat} {e : TypeId} {v x : Value} {xs : List Value} (hv : w.ownsRow b e size v n xs) (hx : ∀ g, x.ownBlock = some g → w.heap.size ≤ g) : Apart v x := by
  intro g hg h2
  have h3 := own_lt hv g hg
  have h4 := hx g h2
  omega

/-- At a round over a record's names: the payloads so far, and the table. -/
def DnRel (B0 B : Nat) (W0 : World) (tl ns : List (List UInt8)) (vn v1 v9 v11 : Value) (wr : World) : Prop :=
  ∃ (i : Nat) (a1 a9 : Value), a1 = v1 ∧ a9 = v9 ∧ i ≤ ns.length ∧ v11 = .int .i64 (i : Int) ∧ Own wr B0 a1 ((ns.take i).foldl tput tl) ∧ Own wr B a9 (freshL tl (ns.take i)) ∧ Own wr 0 vn ns ∧ Apart a9 a1 ∧ Apart a9 vn ∧ Below B W0 wr

theorem nm_in {B0 B : Nat} {wr : World} {tl ns : List (List UInt8)} {a1 a9 : Value} {i : Nat} {s : List UInt8} (hs : ns[i]? = some s) (hin : s ∈ (ns.take i).foldl tput tl) (h1 : Own wr B0 a1 ((ns.take i).foldl tput tl)) (h2 : Own wr B a9 (freshL tl (ns.take i))) :
    Own wr B0 a1 ((ns.take (i + 1)).foldl tput tl) ∧ Own wr B a9 (freshL tl (ns.take (i + 1))) := by
  have e1 : (ns.take (i + 1)).foldl tput tl = (ns.take i).foldl tput tl := by rw [List.take_add_one, hs, List.foldl_append]; exact tput_in hin
  have e2 : freshL tl (ns.take (i + 1)) = freshL tl (ns.take i) := by rw [List.take_add_one, hs]; exact (freshL_snoc _ _ _).trans (by rw [if_pos hin, List.append_nil])
  rw [e1, e2]
  exact ⟨h1, h2⟩
theorem nm_new {tl ns : List (List UInt8)} {i : Nat} {s : List UInt8} (hs : ns[i]? = some s) (hin : s ∉ (ns.take i).foldl tput tl) :
    (ns.take (i + 1)).foldl tput tl = tput ((ns.take i).foldl tput tl) s ∧ freshL tl (ns.take (i + 1)) = freshL tl (ns.take i) ++ [0 :: s] := by
  have e1 : (ns.take (i + 1)).foldl tput tl = tput ((ns.take i).foldl tput tl) s := by rw [List.take_add_one, hs, List.foldl_append]; rfl
  have e2 : freshL tl (ns.take (i + 1)) = freshL tl (ns.take i) ++ [0 :: s] := by rw [List.take_add_one, hs]; exact (freshL_snoc _ _ _).trans (by rw [if_neg hin])
  exact ⟨e1, e2⟩

/-- At a round over a record's deps: what is laid so far. -/
def DqRel (ver : Int) (T : List (List UInt8)) (s : List UInt8) (l : List Dp) (ws : World) (v12 v13 : Value) (wr : World) : Prop :=
  ∃ j : Nat, j ≤ l.length ∧ v13 = .int .i64 (j : Int) ∧ v12 = .string (tx (s ++ (l.take j).flatMap (fDep ver T))) ∧ Below ws.heap.size ws wr
theorem dq_snoc {ver : Int} {T : List (List UInt8)} {s : List UInt8} {l : List Dp} {j : Nat} {x : Dp} (h : l[j]? = some x) : s ++ (l.take (j + 1)).flatMap (fDep ver T) = (s ++ (l.take j).flatMap (fDep ver T)) ++ fDep ver T x := by
  rw [List.take_add_one, h, List.flatMap_append]; simp

end Go.Proofs.Ytfidfhajnobonaa

/- The document's Put of a record that may be. -/
namespace Go.Proofs.Ytfidfhajnobonaa
open Go.RowKit

set_option maxRecDepth 100000 in
set_option maxHeartbeats 4000000 in
theorem rp22 (tl : List (List UInt8)) (t g : List UInt8) (u o m : Int) (A : Option Addr) (n c : Nat) (l : List Dp) (hm : MayP 2 ⟨2, t, u, o, m, g⟩ l) (hnu : Nums ⟨2, t, u, o, m, g⟩ l) (hfit : Fits ⟨2, t, u, o, m, g⟩ l) (tv : Value) (htl : tl.length ≤ 100000) (w : World) (B0 : Nat) (hB0 : B0 ≤ w.heap.size) (hT : Own w B0 tv tl) (hr : Reads w w.heap.size 3 A n (dps l)) :
    Calls Try.prog 12 #[.int .i64 2, tv, .agg #[.int .i64 2, .string (tx t), .int .u64 u, .slice A n c, .int .u64 o, .int .u64 m, .string (tx g)]] w fun e w' => ∃ v1 v2, e = .returned (.tuple #[v1, v2, .int .i64 0]) ∧ Own w' w.heap.size v1 (payL 2 tl ⟨2, t, u, o, m, g⟩ l) ∧ Own w' B0 v2 (tabT 2 tl ⟨2, t, u, o, m, g⟩ l) ∧ Below w.heap.size w w' := by
  obtain ⟨i0, ii0, iz0, iz1, iz2⟩ := info_parts (show (Try.prog.info? 9).map (fun i => (i.zero, i.size, i.bytes)) = some (some (.string { data := #[] }), 1, 16) from by kernel_rfl)
  obtain ⟨n1, n2, n3, n4⟩ := may_names hm
  have hln : l.length = n := by have := hr.1; rw [dps_len] at this; omega
  have hn16 : n ≤ 16 := by omega
  have hTL := tabT_len (tl := tl) hm
  have hin := tabT_mem 2 tl ⟨2, t, u, o, m, g⟩ l
  obtain ⟨T, hTe⟩ : ∃ T, T = tabT 2 tl ⟨2, t, u, o, m, g⟩ l := ⟨_, rfl⟩
  rw [← hTe] at hin hTL
  have hT2 : T.length ≤ 200000 := by omega
  have hnm : (nmB 2 T t).length ≤ 74 := nmB_len n1 (by omega)
  have hinT : (2 : Int) < 2 ∨ t ∈ T := hin.imp id fun h => h _ (tnew_mem (by simp))
  have hinD : ∀ d ∈ l, (2 : Int) < 2 ∨ d.name ∈ T := fun d hd => hin.imp id fun h => h _ (tnew_mem (by
    refine List.mem_append.2 (.inl (List.mem_cons.2 (.inr ?_)))
    exact List.mem_map.2 ⟨d, hd, rfl⟩))
  obtain ⟨nm, hnme⟩ : ∃ nm, nm = nmB 2 T t := ⟨_, rfl⟩
  rw [← hnme] at hnm
  obtain ⟨bk, hbk⟩ : ∃ bk, bk = vb 2 := ⟨_, rfl⟩
  have lbk : bk.length ≤ 10 := by rw [hbk]; exact vb_len _ (by unfold top; omega)
  have HK := Lib.hid (fun W => refput_any 2 (by unfold top; omega) W)
  rw [← hbk] at HK
  have hfin : Hid (payB 2 T ⟨2, t, u, o, m, g⟩ l = bk ++ nm) := by
    show _ = _
    rw [hbk, hnme]
    unfold payB
    rw [vb_lt (show 2 < 128 by omega)]
    simp
  have hpl : Hid (payL 2 tl ⟨2, t, u, o, m, g⟩ l = freT 2 tl ⟨2, t, u, o, m, g⟩ l ++ [payB 2 T ⟨2, t, u, o, m, g⟩ l]) := by show _ = _; unfold payL; rw [← hTe]
  have hfre : Hid (freT 2 tl ⟨2, t, u, o, m, g⟩ l = freshL tl (rnames ⟨2, t, u, o, m, g⟩ l)) := by show _ = _; unfold freT; rw [if_neg (by omega)]
  have htab : Hid (T = (rnames ⟨2, t, u, o, m, g⟩ l).foldl tput tl) := by show _ = _; rw [hTe]; unfold tabT; rw [if_neg (by omega)]
  rw [← hTe]
  have hmay := Lib.hid (fun W hw => rmay_any 2 ⟨2, t, u, o, m, g⟩ A n c l (by omega) hfit W hw)
  have HMAY := Lib.hid hm
  have HR := Lib.hid hr
  obtain ⟨L, cT, rfl, hLc⟩ := own_slice hT
  have HT := Lib.hid hT
  have HNM := Lib.hid (fun W hw => rnames_any ⟨2, t, u, o, m, g⟩ A n c l (by omega) W hw)
  have hnl := rnames_le hm
  obtain ⟨X0, hX0⟩ : ∃ X0, X0 = w.alloc (.cells #[.int .i64 2, .string (tx t), .int .u64 u, .slice A n c, .int .u64 o, .int .u64 m, .string (tx g)] 26) := ⟨_, rfl⟩
  have hz0 : Hid (X0.heap.size = w.heap.size + 1) := by show _ = _; rw [hX0]; simp
  have hbx0 := one_new w (.cells #[.int .i64 2, .string (tx t), .int .u64 u, .slice A n c, .int .u64 o, .int .u64 m, .string (tx g)] 26)
  rw [← hX0] at hbx0
  have HBX : Hid (∀ W, Below (w.heap.size + 1) X0 W → W.heap[w.heap.size]? = some (.cells #[.int .i64 2, .string (tx t), .int .u64 u, .slice A n c, .int .u64 o, .int .u64 m, .string (tx g)] 26 (0, 0))) := fun W h => (h.block _ (by omega)).trans hbx0
  have HW0 : Hid (Below w.heap.size w X0) := by rw [hX0]; exact (Below.refl w.heap.size w).alloc (Nat.le_refl _) _
  have HB3 : Hid (Below (w.heap.size + 1) X0 (X0.alloc (.cells #[] 9))) := (Below.refl _ _).alloc (by rw [hz0.out]; exact Nat.le_refl _) _
  have HZ : Hid (∀ W, Below (w.heap.size + 1) X0 W → w.heap.size + 1 ≤ W.heap.size) := fun W h => by have h1 := h.size; rw [hz0.out] at h1; exact h1
  have HRW : Hid (∀ W, Below (w.heap.size + 1) X0 W → Reads W W.heap.size 3 A n (dps l)) := fun W h => (HR.out.below (HW0.out.trans (h.mono (by omega)))).more (by have h1 := h.size; rw [hz0.out] at h1; omega)
  have HO3 : Hid (Own (X0.alloc (.cells #[] 9)) (w.heap.size + 1) (.slice (some ⟨w.heap.size + 1, 0, none⟩) 0 0) []) := by
    have h1 := own_empty X0 9
    rw [hz0.out] at h1
    exact h1
  have HT3 : Hid (Own (X0.alloc (.cells #[] 9)) B0 (.slice L tl.length cT) tl) := HT.out.below (HW0.out.trans (HB3.out.mono (by omega)))
  rw [hX0] at HBX HW0 HB3 HZ HRW HO3 HT3
  unfold rcv rsv at hmay HNM
  clear hm hr hfit hTe hbx0 hz0 HR hX0 hbk hin hLc
  have hln2 : Hid (l.length = n) := hln
  clear hln
  have HNME := Lib.hid hnme
  clear hnme
  have HNU := Lib.hid hnu
  have HN4 := Lib.hid n4
  have HIND := Lib.hid hinD
  clear hnu n4 hinD
  have HTLT : Hid (∀ gg, (Value.slice L tl.length cT).ownBlock = some gg → gg < w.heap.size) := own_lt HT.out
  clear hT
  have HINT := Lib.hid hinT
  clear hinT
  have hbx := HBX.out ((w.alloc (.cells #[.int .i64 2, .string (tx t), .int .u64 u, .slice A n c, .int .u64 o, .int .u64 m, .string (tx g)] 26)).alloc (.cells #[] 9)) HB3.out
  have p0 := at_cell (i := 0) hbx rfl
  have p1 := at_cell (i := 1) hbx rfl
  have p2 := at_cell (i := 2) hbx rfl
  have p3 := at_cell (i := 3) hbx rfl
  have p4 := at_cell (i := 4) hbx rfl
  have p5 := at_cell (i := 5) hbx rfl
  have p6 := at_cell (i := 6) hbx rfl
  clear hbx
  go_enter Try.func12, Try.ntmps12
  go_wp2_with fail
  refine (hmay.out _ (HRW.out _ HB3.out)).mono ?_
  rintro e w4 ⟨he, hb⟩
  obtain rfl := he.yes HMAY.out
  have HB4 := Lib.hid (HB3.out.trans (hb.mono (HZ.out _ HB3.out)))
  have HO4 := Lib.hid (HO3.out.below hb)
  have HT4 := Lib.hid (HT3.out.below hb)
  clear he hb hmay HMAY HO3 HT3
  clear p0 p1 p2 p3 p4 p5 p6
  have hbx := HBX.out w4 HB4.out
  have p0 := at_cell (i := 0) hbx rfl
  have p1 := at_cell (i := 1) hbx rfl
  have p2 := at_cell (i := 2) hbx rfl
  have p3 := at_cell (i := 3) hbx rfl
  have p4 := at_cell (i := 4) hbx rfl
  have p5 := at_cell (i := 5) hbx rfl
  have p6 := at_cell (i := 6) hbx rfl
  clear hbx
  go_wp2_with fail
  refine (HNM.out _ (HRW.out _ HB4.out)).mono ?_
  rintro e w5 ⟨vn, rfl, hvn, hb⟩
  obtain ⟨ns, hns⟩ : ∃ ns, ns = rnames ⟨2, t, u, o, m, g⟩ l := ⟨_, rfl⟩
  rw [← hns] at hvn htab hfre hnl
  obtain ⟨An, cn, rfl, hAn⟩ := own_slice hvn
  have HB5 := Lib.hid (HB4.out.trans (hb.mono (HZ.out _ HB4.out)))
  obtain ⟨mm, hmm⟩ : ∃ mm, mm = ns.length := ⟨_, rfl⟩
  have HMM := Lib.hid hmm
  have H5 : Hid (DnRel B0 (w.heap.size + 1) (w.alloc (.cells #[.int .i64 2, .string (tx t), .int .u64 u, .slice A n c, .int .u64 o, .int .u64 m, .string (tx g)] 26)) tl ns (.slice An ns.length cn) (.slice L tl.length cT) (.slice (some ⟨w.heap.size + 1, 0, none⟩) 0 0) (.int .i64 0) w5) := by
    refine ⟨0, _, _, rfl, rfl, by omega, rfl, HT4.out.below hb, HO4.out.below hb, hvn.less (by omega), fun gg e1 e2 => ?_, fun gg e1 e2 => ?_, HB5.out⟩
    · have h1 := HTLT.out _ e2
      obtain rfl : w.heap.size + 1 = gg := by simpa [Value.ownBlock] using e1
      omega
    · have h1 := own_block hvn _ e2
      obtain rfl : w.heap.size + 1 = gg := by simpa [Value.ownBlock] using e1
      have h2 := own_lt HO4.out _ e1
      omega
  have HNL := Lib.hid hnl.1
  have hm18 : mm ≤ 18 := by rw [hmm]; exact hnl.2
  rw [← hmm] at H5 ⊢
  clear hvn hb hns hnl hmm HNM HT4 HO4 HB4 HTLT
  clear p0 p1 p2 p3 p4 p5 p6
  go_wp2
  go_loopw [1, 9, 11] (fun v1 v9 v11 wr => DnRel B0 (w.heap.size + 1) (w.alloc (.cells #[.int .i64 2, .string (tx t), .int .u64 u, .slice A n c, .int .u64 o, .int .u64 m, .string (tx g)] 26)) tl ns (.slice An mm cn) v1 v9 v11 wr) (fun _ _ v11 _ => mm - (intOf v11).toNat)
  case atStart => exact H5.out
  case round =>
    obtain ⟨i, a1, a9, rfl, rfl, hi, rfl, ht, ho, hon, hap1, hap2, hbr⟩ := hrel
    clear H5
    rw [← HMM.out] at hi
    obtain ⟨L1, c1, rfl, hL1⟩ := own_slice ht
    obtain ⟨L9, c9, rfl, hL9⟩ := own_slice ho
    have HTr := Lib.hid ht
    have HOr := Lib.hid ho
    have HONr := Lib.hid hon
    have HAP1 := Lib.hid hap1
    have HAP2 := Lib.hid hap2
    have HBr := Lib.hid hbr
    have hf1 := freshL_len (ns.take i) tl
    have hf2 := tfold_len (ns.take i) tl
    rw [List.length_take] at hf1 hf2
    clear hap1 hap2 hbr
    by_cases hlt : i < mm
    · obtain ⟨s, hs⟩ : ∃ s, ns[i]? = some s := ⟨_, List.getElem?_eq_getElem (by rw [← HMM.out]; exact hlt)⟩
      have hon2 : wr.ownsRow 0 9 1 (.slice An mm cn) mm (ns.map tsv) := by have h := hon; unfold Own at h; rwa [← HMM.out] at h
      obtain ⟨adn, rfl, _, hcx⟩ := (Reads.of_own hon2).2 (by omega)
      clear hon2
      have k0 := hcx i (tsv s) (by rw [List.getElem?_map, hs]; rfl)
      have HNC : Hid (∀ W, Own W 0 (.slice (some adn) mm cn) ns → W.cell? (adn.add i) = some (.string (tx s))) := fun W h => by
        have h2 : W.ownsRow 0 9 1 (.slice (some adn) mm cn) mm (ns.map tsv) := by unfold Own at h; rwa [← HMM.out] at h
        obtain ⟨ad2, e2, _, hc2⟩ := (Reads.of_own h2).2 (by omega)
        obtain rfl : adn = ad2 := Option.some.inj e2
        exact hc2 i (tsv s) (by rw [List.getElem?_map, hs]; rfl)
      have hsl := HNL.out s (List.mem_of_getElem? hs)
      have hpl := place_any L1 ((ns.take i).foldl tput tl).length c1 ((ns.take i).foldl tput tl) s (by omega) wr (Reads.of_own ht)
      unfold tsv at k0 hpl
      have hi0 : (0 : Int) ≤ (i : Int) := by omega
      have hi1 : (i : Int) < (mm : Int) := by omega
      have HS := Lib.hid hs
      by_cases hin : s ∈ (ns.take i).foldl tput tl
      · have HNI := Lib.hid (nm_in hs hin ht ho)
        rw [tplace_in hin] at hpl
        have HPL := Lib.hid hpl
        generalize tnum ((ns.take i).foldl tput tl) s = q at HPL
        have hq0 : decide ((q : Int) < 0) = false := decide_eq_false (by omega)
        generalize hT0 : ((ns.take i).foldl tput tl).length = nT at *
        generalize hF0 : (freshL tl (ns.take i)).length = nF at *
        clear hcx ht ho hon hin hpl hs hf1 hf2 hT0 hF0
        go_wp2_with fail
        refine HPL.out.mono ?_
        rintro e w6 ⟨rfl, rfl⟩
        go_wp2
        exact ⟨⟨i + 1, _, _, rfl, rfl, by rw [← HMM.out]; omega, by go_num, HNI.out.1, HNI.out.2, HONr.out, HAP1.out, HAP2.out, HBr.out⟩, by simp [intOf]; omega⟩
      · have HNE := Lib.hid (nm_new hs hin)
        rw [tplace_out hin] at hpl
        have HPL := Lib.hid hpl
        have hadd : ∀ W : World, (Op.stringOp .add { data := #[0] } (tx s)).run Try.prog W = .ok (.string (tx (0 :: s))) W := fun W => add_tx W [0] s (by simp; omega)
        have HPUT := Lib.hid (fun W hb hl => iput_any B0 (.slice L1 ((ns.take i).foldl tput tl).length c1) ((ns.take i).foldl tput tl) s (by omega) W hb hl)
        unfold tsv at HPUT
        obtain ⟨nT, hnT⟩ : ∃ nT, nT = ((ns.take i).foldl tput tl).length := ⟨_, rfl⟩
        obtain ⟨nF, hnF⟩ : ∃ nF, nF = (freshL tl (ns.take i)).length := ⟨_, rfl⟩
        have HNT := Lib.hid hnT
        have HNF := Lib.hid hnF
        have HTr2 : Hid (Own wr B0 (.slice L1 nT c1) ((ns.take i).foldl tput tl)) := by rw [hnT]; exact ht
        have HOr2 : Hid (wr.ownsRow (w.heap.size + 1) 9 1 (.slice L9 nF c9) nF ((freshL tl (ns.take i)).map tsv)) := by rw [hnF]; exact ho
        have HONr2 : Hid (Own wr 0 (.slice (some adn) mm cn) ns) := hon
        have HA1 : Hid (Apart (.slice L9 nF c9) (.slice L1 nT c1)) := by rw [hnF, hnT]; exact HAP1.out
        have HA2 : Hid (Apart (.slice L9 nF c9) (.slice (some adn) mm cn)) := by rw [hnF]; exact HAP2.out
        rw [← hnT] at HPL HPUT
        rw [← hnF] at hf1
        rw [← hnT, ← hnF]
        have hnF2 : nF ≤ 100 := by omega
        clear hcx ht ho hon hin hpl hs hf1 hf2 hnT hnF HTr HOr HONr HAP1 HAP2
        go_wp2_with fail
        refine HPL.out.mono ?_
        rintro e w6 ⟨rfl, rfl⟩
        have HO2 := Lib.hid (World.ownsRow.alloc HOr2.out (.cells #[.string (tx (0 :: s))] 9))
        have HR2 := Lib.hid (reads_one_row wr 9 (.string (tx (0 :: s))))
        have HB2 := Lib.hid (HBr.out.alloc (HZ.out _ HBr.out) (.cells #[.string (tx (0 :: s))] 9))
        go_wp2_with (at_builtin; refine wpList_append_told _ rfl (.tmp 48) (.tmp 54) 22 rfl (w.heap.size + 1) 9 i0 _ 1 16 Try.underlying22 ii0 iz0 iz1 iz2 rfl (by decide) _ nF _ rfl HO2.out (some ⟨wr.heap.size, 0, none⟩) 1 1 (wr.heap.size + 1) [.string (tx (0 :: s))] rfl (by simp) HR2.out (fun u hu => by obtain rfl := List.mem_singleton.1 hu; rfl) (by unfold maxLen; omega) (by omega) (HZ.out _ HB2.out) ?_; intro v7 w7 ho7 hg7 hv7; have hv7b : v7.ownBlock = (Value.slice L9 nF c9).ownBlock ∨ v7.ownBlock = some (wr.alloc (.cells #[.string (tx (0 :: s))] 9)).heap.size := hv7; have hg7b : (wr.alloc (.cells #[.string (tx (0 :: s))] 9)).grownBy w7 (Value.slice L9 nF c9).ownBlock := hg7; have HO7 := Lib.hid ho7; have HB7 := Lib.hid (HB2.out.grown hg7b (HZ.out _ HB2.out) (own_block HO2.out)); have HT7 := Lib.hid (own_kept (World.ownsRow.alloc HTr2.out (.cells #[.string (tx (0 :: s))] 9)) HA1.out hg7b); have HN7 := Lib.hid (own_kept (World.ownsRow.alloc HONr2.out (.cells #[.string (tx (0 :: s))] 9)) HA2.out hg7b); have HA71 := Lib.hid (apart_told HA1.out (World.ownsRow.alloc HTr2.out (.cells #[.string (tx (0 :: s))] 9)) hv7b); have HA72 := Lib.hid (apart_told HA2.out (World.ownsRow.alloc HONr2.out (.cells #[.string (tx (0 :: s))] 9)) hv7b); have k7 := HNC.out _ HN7.out; clear ho7 hg7 hv7 hv7b hg7b)
        refine (HPUT.out w7 (by have := HZ.out _ HB7.out; omega) HT7.out).mono ?_
        rintro e w8 ⟨v8, rfl, ho8, hv8, hb8⟩
        obtain ⟨L8, c8, rfl, _⟩ := own_slice ho8
        have HB8 := Lib.hid (HB7.out.trans (hb8.mono (HZ.out _ HB7.out)))
        have HA81 : Hid (Apart v7 (.slice L8 (tput ((ns.take i).foldl tput tl) s).length c8)) := by
          rcases hv8 with h | h
          · rw [h]; exact HA71.out
          · exact apart_up HO7.out h
        have HO8 := Lib.hid ho8
        have HO78 := Lib.hid (own_below HO7.out hb8)
        have HN8 := Lib.hid (own_below HN7.out hb8)
        clear ho8 hv8 hb8
        go_wp2
        exact ⟨⟨i + 1, _, _, rfl, rfl, by rw [← HMM.out]; omega, by go_num, by rw [HNE.out.1]; exact HO8.out, by rw [HNE.out.2]; unfold Own; rw [List.length_append, List.map_append, ← HNF.out]; exact HO78.out, HN8.out, HA81.out, HA72.out, HB8.out⟩, by simp [intOf]; omega⟩
    · obtain rfl : i = mm := by omega
      have htk : ns.take i = ns := List.take_of_length_le (by rw [← HMM.out]; omega)
      rw [htk] at ht ho HAP1 HTr HOr
      rw [htk]
      rw [← htab.out] at ht HAP1 HTr ⊢
      obtain ⟨nT, hnT⟩ : ∃ nT, nT = T.length := ⟨_, rfl⟩
      obtain ⟨nO, hnO⟩ : ∃ nO, nO = (freshL tl ns).length := ⟨_, rfl⟩
      have HNT := Lib.hid hnT
      have HNO := Lib.hid hnO
      have HTT : Hid (wr.ownsRow B0 9 1 (.slice L1 nT c1) nT (T.map tsv)) := by rw [hnT]; exact ht
      have HOO : Hid (wr.ownsRow (w.heap.size + 1) 9 1 (.slice L9 nO c9) nO ((freshL tl ns).map tsv)) := by rw [hnO]; exact ho
      have HAP : Hid (Apart (.slice L9 nO c9) (.slice L1 nT c1)) := by rw [hnO, hnT]; exact HAP1.out
      have hnT2 : nT ≤ 200000 := by rw [hnT]; exact hT2
      have hnO2 : nO ≤ 100 := by rw [hnO]; have := freshL_len ns tl; rw [← HMM.out] at this; omega
      rw [← hnT, ← hnO]
      obtain ⟨LT, rfl⟩ : ∃ LT, LT = L1 := ⟨_, rfl⟩
      obtain ⟨LO, rfl⟩ : ∃ LO, LO = L9 := ⟨_, rfl⟩
      obtain ⟨cX, rfl⟩ : ∃ cX, cX = c1 := ⟨_, rfl⟩
      obtain ⟨cO, rfl⟩ : ∃ cO, cO = c9 := ⟨_, rfl⟩
      clear ht ho hon HTr HOr HONr HAP1 HAP2 hf1 hf2 htk hnT hnO
      have hbx := HBX.out wr HBr.out
      have p0 := at_cell (i := 0) hbx rfl
      have p1 := at_cell (i := 1) hbx rfl
      have p2 := at_cell (i := 2) hbx rfl
      have p3 := at_cell (i := 3) hbx rfl
      have p4 := at_cell (i := 4) hbx rfl
      have p5 := at_cell (i := 5) hbx rfl
      have p6 := at_cell (i := 6) hbx rfl
      clear hbx
      obtain ⟨s1, hs1⟩ : ∃ s1, s1 = bk ++ nm := ⟨_, rfl⟩
      have ls1 : s1.length ≤ 100 := by rw [hs1, List.length_append]; omega
      have as1 := fun W : World => add_tx (P := Try.prog) W bk nm (by omega)
      rw [← hs1] at as1
      have Hs1 := Lib.hid hs1
      clear hs1
      have HBC := HBr
      go_wp2_with fail
      refine wp_region_held (S := fun W => Below wr.heap.size wr W) (by kernel_rfl) ?_
      have hS : Below wr.heap.size wr wr.drew := (Below.refl _ _).drew
      refine h_take 0 (.pointer (some ⟨w.heap.size, 0, none⟩)) rfl (by kernel_rfl) (by kernel_rfl) (by kernel_rfl) (fun _ _ _ h => h) (by kernel_rfl) hS (fun _ _ => by kernel_rfl) ?_
      refine h_take 1 (.int .i64 2) rfl (by kernel_rfl) (by kernel_rfl) (by kernel_rfl) (fun _ _ _ h => h) (by kernel_rfl) hS (by intro v hv; have q := (hv.cell (p := ⟨w.heap.size, 0, none⟩) (by have := HZ.out _ HBC.out; show w.heap.size < _; omega)).trans p0; go_simp) ?_
      refine h_take 2 (.int .u64 2) rfl (by kernel_rfl) (by kernel_rfl) (by kernel_rfl) (fun _ _ _ h => h) (by kernel_rfl) hS (fun _ _ => by kernel_rfl) ?_
      refine h_take 4 (.int .i64 2) rfl (by kernel_rfl) (by kernel_rfl) (by kernel_rfl) (fun _ _ _ h => h) (by kernel_rfl) hS (fun _ _ => by kernel_rfl) ?_
      refine h_take 5 (.slice LT nT cX) rfl (by kernel_rfl) (by kernel_rfl) (by kernel_rfl) (fun _ _ _ h => h) (by kernel_rfl) hS (fun _ _ => by kernel_rfl) ?_
      refine h_take 6 (.pointer (some ⟨w.heap.size, 1, none⟩)) rfl (by kernel_rfl) (by kernel_rfl) (by kernel_rfl) (fun _ _ _ h => h) (by kernel_rfl) hS (fun _ _ => by kernel_rfl) ?_
      refine h_take 7 (.string (tx t)) rfl (by kernel_rfl) (by kernel_rfl) (by kernel_rfl) (fun _ _ _ h => h) (by kernel_rfl) hS (by intro v hv; have q := (hv.cell (p := ⟨w.heap.size, 1, none⟩) (by have := HZ.out _ HBC.out; show w.heap.size < _; omega)).trans p1; go_simp) ?_
      refine h_one 3 rfl (by kernel_rfl) (by kernel_rfl) (fun K hK => ?_)
      go_simp
      refine (HK.out _).mono ?_
      rintro e w10 ⟨rfl, hb⟩
      have hS2 : Below wr.heap.size wr w10 := hS.trans (hb.mono hS.size)
      refine hK _ _ hS2 ?_
      clear hK K hb
      refine h_one 8 rfl (by kernel_rfl) (by kernel_rfl) (fun K hK => ?_)
      go_simp
      refine (doctext_any 2 (by omega) LT nT cX T t (by omega) HINT.out (by omega) w10 (((Reads.of_own HTT.out).below hS2).more hS2.size)).mono ?_
      rintro e w11 ⟨rfl, hb⟩
      rw [← HNME.out]
      have hS3 : Below wr.heap.size wr w11 := hS2.trans (hb.mono hS2.size)
      refine hK _ _ hS3 ?_
      clear hK K hb
      refine h_take 9 (.string (tx s1)) rfl (by kernel_rfl) (by kernel_rfl) (by kernel_rfl) (fun _ _ _ h => h) (by kernel_rfl) hS3 (by intro v hv; go_simp) ?_
      refine h_take 10 (.string (tx s1)) rfl (by kernel_rfl) (by kernel_rfl) (by kernel_rfl) (fun _ _ _ h => h) (by kernel_rfl) hS3 (fun _ _ => by kernel_rfl) ?_
      refine wpAnyH_done (by kernel_rfl) ?_ _
      go_simp
      clear hS hS2 HBC
      have HB21 := Lib.hid (HBr.out.trans (hS3.mono (HZ.out _ HBr.out)))
      have HTT21 := Lib.hid (own_below HTT.out hS3)
      have HOO21 := Lib.hid (own_below HOO.out hS3)
      clear hS3
      clear p0 p1 p2 p3 p4 p5 p6
      have hbx := HBX.out w11 HB21.out
      have p0 := at_cell (i := 0) hbx rfl
      have p1 := at_cell (i := 1) hbx rfl
      have p2 := at_cell (i := 2) hbx rfl
      have p3 := at_cell (i := 3) hbx rfl
      have p4 := at_cell (i := 4) hbx rfl
      have p5 := at_cell (i := 5) hbx rfl
      have p6 := at_cell (i := 6) hbx rfl
      clear hbx
      obtain ⟨nO1, hO1⟩ : ∃ nO1, nO1 = nO + 1 := ⟨_, rfl⟩
      clear hO1
      have HO2 := Lib.hid (World.ownsRow.alloc HOO21.out (.cells #[.string (tx s1)] 9))
      have HT2 := Lib.hid (World.ownsRow.alloc HTT21.out (.cells #[.string (tx s1)] 9))
      have HR2 := Lib.hid (reads_one_row w11 9 (.string (tx s1)))
      have HB2 := Lib.hid (HB21.out.alloc (HZ.out _ HB21.out) (.cells #[.string (tx s1)] 9))
      go_wp2_with (at_builtin; refine wpList_append_told _ rfl (.tmp 164) (.tmp 166) 22 rfl (w.heap.size + 1) 9 i0 _ 1 16 Try.underlying22 ii0 iz0 iz1 iz2 rfl (by decide) _ nO _ rfl HO2.out (some ⟨w11.heap.size, 0, none⟩) 1 1 (w11.heap.size + 1) [.string (tx s1)] rfl (by simp) HR2.out (fun u hu => by obtain rfl := List.mem_singleton.1 hu; rfl) (by unfold maxLen; omega) (by omega) (HZ.out _ HB2.out) ?_; intro v7 w7 ho7 hg7 hv7; have hg7b : (w11.alloc (.cells #[.string (tx s1)] 9)).grownBy w7 (Value.slice LO nO cO).ownBlock := hg7; have HO7 := Lib.hid ho7; have HB7 := Lib.hid (HB2.out.grown hg7b (HZ.out _ HB2.out) (own_block HO2.out)); have HT7 := Lib.hid (own_kept HT2.out HAP.out hg7b); clear ho7 hg7 hv7 hg7b)
      go_ret3
      refine ⟨_, _, rfl, ?_, ?_, HW0.out.trans (HB7.out.mono (by omega))⟩
      · rw [hpl.out, hfre.out, hfin.out, ← Hs1.out]
        unfold Own
        rw [List.length_append, List.map_append, ← HNO.out]
        exact own_less HO7.out (by omega)
      · unfold Own
        rw [← HNT.out]
        exact HT7.out

end Go.Proofs.Ytfidfhajnobonaa

/- The document's Put of a record that may be. -/
namespace Go.Proofs.Ytfidfhajnobonaa
open Go.RowKit

set_option maxRecDepth 100000 in
set_option maxHeartbeats 4000000 in
theorem rp21 (tl : List (List UInt8)) (t g : List UInt8) (u o m : Int) (A : Option Addr) (n c : Nat) (l : List Dp) (hm : MayP 2 ⟨1, t, u, o, m, g⟩ l) (hnu : Nums ⟨1, t, u, o, m, g⟩ l) (hfit : Fits ⟨1, t, u, o, m, g⟩ l) (tv : Value) (htl : tl.length ≤ 100000) (w : World) (B0 : Nat) (hB0 : B0 ≤ w.heap.size) (hT : Own w B0 tv tl) (hr : Reads w w.heap.size 3 A n (dps l)) :
    Calls Try.prog 12 #[.int .i64 2, tv, .agg #[.int .i64 1, .string (tx t), .int .u64 u, .slice A n c, .int .u64 o, .int .u64 m, .string (tx g)]] w fun e w' => ∃ v1 v2, e = .returned (.tuple #[v1, v2, .int .i64 0]) ∧ Own w' w.heap.size v1 (payL 2 tl ⟨1, t, u, o, m, g⟩ l) ∧ Own w' B0 v2 (tabT 2 tl ⟨1, t, u, o, m, g⟩ l) ∧ Below w.heap.size w w' := by
  obtain ⟨i0, ii0, iz0, iz1, iz2⟩ := info_parts (show (Try.prog.info? 9).map (fun i => (i.zero, i.size, i.bytes)) = some (some (.string { data := #[] }), 1, 16) from by kernel_rfl)
  obtain ⟨n1, n2, n3, n4⟩ := may_names hm
  have hln : l.length = n := by have := hr.1; rw [dps_len] at this; omega
  have hn16 : n ≤ 16 := by omega
  have hTL := tabT_len (tl := tl) hm
  have hin := tabT_mem 2 tl ⟨1, t, u, o, m, g⟩ l
  obtain ⟨T, hTe⟩ : ∃ T, T = tabT 2 tl ⟨1, t, u, o, m, g⟩ l := ⟨_, rfl⟩
  rw [← hTe] at hin hTL
  have hT2 : T.length ≤ 200000 := by omega
  have hnm : (nmB 2 T t).length ≤ 74 := nmB_len n1 (by omega)
  have hinT : (2 : Int) < 2 ∨ t ∈ T := hin.imp id fun h => h _ (tnew_mem (by simp))
  have hinD : ∀ d ∈ l, (2 : Int) < 2 ∨ d.name ∈ T := fun d hd => hin.imp id fun h => h _ (tnew_mem (by
    refine List.mem_append.2 (.inl (List.mem_cons.2 (.inr ?_)))
    exact List.mem_map.2 ⟨d, hd, rfl⟩))
  obtain ⟨nm, hnme⟩ : ∃ nm, nm = nmB 2 T t := ⟨_, rfl⟩
  rw [← hnme] at hnm
  obtain ⟨bk, hbk⟩ : ∃ bk, bk = vb 1 := ⟨_, rfl⟩
  have lbk : bk.length ≤ 10 := by rw [hbk]; exact vb_len _ (by unfold top; omega)
  have HK := Lib.hid (fun W => refput_any 1 (by unfold top; omega) W)
  rw [← hbk] at HK
  have hFL := fun k => fDeps_take (ver := 2) (tl := T) (l := l) (m := k) n4 hnu.2.2.2 (by omega)
  obtain ⟨bu, hbu⟩ : ∃ bu, bu = vb u.toNat := ⟨_, rfl⟩
  have lbu : bu.length ≤ 10 := by rw [hbu]; exact vb_len _ (num_nat hnu.1).2
  have HU := Lib.hid (fun W => refput_any u.toNat (num_nat hnu.1).2 W)
  rw [← hbu, ← (num_nat hnu.1).1] at HU
  obtain ⟨bn, hbn⟩ : ∃ bn, bn = vb n := ⟨_, rfl⟩
  have lbn : bn.length ≤ 10 := by rw [hbn]; exact vb_len _ (by unfold top; omega)
  have HN := Lib.hid (fun W => refput_any n (by unfold top; omega) W)
  rw [← hbn] at HN
  obtain ⟨bo, hbo⟩ : ∃ bo, bo = vb o.toNat := ⟨_, rfl⟩
  have lbo : bo.length ≤ 10 := by rw [hbo]; exact vb_len _ (num_nat hnu.2.1).2
  have HO := Lib.hid (fun W => refput_any o.toNat (num_nat hnu.2.1).2 W)
  rw [← hbo, ← (num_nat hnu.2.1).1] at HO
  obtain ⟨bm, hbm⟩ : ∃ bm, bm = vb m.toNat := ⟨_, rfl⟩
  have lbm : bm.length ≤ 10 := by rw [hbm]; exact vb_len _ (num_nat hnu.2.2.1).2
  have HM := Lib.hid (fun W => refput_any m.toNat (num_nat hnu.2.2.1).2 W)
  rw [← hbm, ← (num_nat hnu.2.2.1).1] at HM
  have hfin : Hid (payB 2 T ⟨1, t, u, o, m, g⟩ l = (((((bk ++ nm) ++ bu) ++ bn) ++ l.flatMap (fDep 2 T)) ++ bo) ++ bm) := by
    show _ = _
    rw [hbk, hnme, hbu, hbn, hbo, hbm]
    unfold payB fDeps
    rw [vb_lt (show 1 < 128 by omega), hln]
    simp
  have hpl : Hid (payL 2 tl ⟨1, t, u, o, m, g⟩ l = freT 2 tl ⟨1, t, u, o, m, g⟩ l ++ [payB 2 T ⟨1, t, u, o, m, g⟩ l]) := by show _ = _; unfold payL; rw [← hTe]
  have hfre : Hid (freT 2 tl ⟨1, t, u, o, m, g⟩ l = freshL tl (rnames ⟨1, t, u, o, m, g⟩ l)) := by show _ = _; unfold freT; rw [if_neg (by omega)]
  have htab : Hid (T = (rnames ⟨1, t, u, o, m, g⟩ l).foldl tput tl) := by show _ = _; rw [hTe]; unfold tabT; rw [if_neg (by omega)]
  rw [← hTe]
  have hmay := Lib.hid (fun W hw => rmay_any 2 ⟨1, t, u, o, m, g⟩ A n c l (by omega) hfit W hw)
  have HMAY := Lib.hid hm
  have HR := Lib.hid hr
  obtain ⟨L, cT, rfl, hLc⟩ := own_slice hT
  have HT := Lib.hid hT
  have HNM := Lib.hid (fun W hw => rnames_any ⟨1, t, u, o, m, g⟩ A n c l (by omega) W hw)
  have hnl := rnames_le hm
  obtain ⟨X0, hX0⟩ : ∃ X0, X0 = w.alloc (.cells #[.int .i64 1, .string (tx t), .int .u64 u, .slice A n c, .int .u64 o, .int .u64 m, .string (tx g)] 26) := ⟨_, rfl⟩
  have hz0 : Hid (X0.heap.size = w.heap.size + 1) := by show _ = _; rw [hX0]; simp
  have hbx0 := one_new w (.cells #[.int .i64 1, .string (tx t), .int .u64 u, .slice A n c, .int .u64 o, .int .u64 m, .string (tx g)] 26)
  rw [← hX0] at hbx0
  have HBX : Hid (∀ W, Below (w.heap.size + 1) X0 W → W.heap[w.heap.size]? = some (.cells #[.int .i64 1, .string (tx t), .int .u64 u, .slice A n c, .int .u64 o, .int .u64 m, .string (tx g)] 26 (0, 0))) := fun W h => (h.block _ (by omega)).trans hbx0
  have HW0 : Hid (Below w.heap.size w X0) := by rw [hX0]; exact (Below.refl w.heap.size w).alloc (Nat.le_refl _) _
  have HB3 : Hid (Below (w.heap.size + 1) X0 (X0.alloc (.cells #[] 9))) := (Below.refl _ _).alloc (by rw [hz0.out]; exact Nat.le_refl _) _
  have HZ : Hid (∀ W, Below (w.heap.size + 1) X0 W → w.heap.size + 1 ≤ W.heap.size) := fun W h => by have h1 := h.size; rw [hz0.out] at h1; exact h1
  have HRW : Hid (∀ W, Below (w.heap.size + 1) X0 W → Reads W W.heap.size 3 A n (dps l)) := fun W h => (HR.out.below (HW0.out.trans (h.mono (by omega)))).more (by have h1 := h.size; rw [hz0.out] at h1; omega)
  have HO3 : Hid (Own (X0.alloc (.cells #[] 9)) (w.heap.size + 1) (.slice (some ⟨w.heap.size + 1, 0, none⟩) 0 0) []) := by
    have h1 := own_empty X0 9
    rw [hz0.out] at h1
    exact h1
  have HT3 : Hid (Own (X0.alloc (.cells #[] 9)) B0 (.slice L tl.length cT) tl) := HT.out.below (HW0.out.trans (HB3.out.mono (by omega)))
  rw [hX0] at HBX HW0 HB3 HZ HRW HO3 HT3
  unfold rcv rsv at hmay HNM
  clear hm hr hfit hTe hbx0 hz0 HR hX0 hbk hin hLc
  have hln2 : Hid (l.length = n) := hln
  clear hln
  have HNME := Lib.hid hnme
  clear hnme
  have HNU := Lib.hid hnu
  have HN4 := Lib.hid n4
  have HIND := Lib.hid hinD
  clear hnu n4 hinD
  have HFL := Lib.hid hFL
  clear hFL hbu hbn hbo hbm
  have HTLT : Hid (∀ gg, (Value.slice L tl.length cT).ownBlock = some gg → gg < w.heap.size) := own_lt HT.out
  clear hT
  have HINT := Lib.hid hinT
  clear hinT
  have hbx := HBX.out ((w.alloc (.cells #[.int .i64 1, .string (tx t), .int .u64 u, .slice A n c, .int .u64 o, .int .u64 m, .string (tx g)] 26)).alloc (.cells #[] 9)) HB3.out
  have p0 := at_cell (i := 0) hbx rfl
  have p1 := at_cell (i := 1) hbx rfl
  have p2 := at_cell (i := 2) hbx rfl
  have p3 := at_cell (i := 3) hbx rfl
  have p4 := at_cell (i := 4) hbx rfl
  have p5 := at_cell (i := 5) hbx rfl
  have p6 := at_cell (i := 6) hbx rfl
  clear hbx
  go_enter Try.func12, Try.ntmps12
  go_wp2_with fail
  refine (hmay.out _ (HRW.out _ HB3.out)).mono ?_
  rintro e w4 ⟨he, hb⟩
  obtain rfl := he.yes HMAY.out
  have HB4 := Lib.hid (HB3.out.trans (hb.mono (HZ.out _ HB3.out)))
  have HO4 := Lib.hid (HO3.out.below hb)
  have HT4 := Lib.hid (HT3.out.below hb)
  clear he hb hmay HMAY HO3 HT3
  clear p0 p1 p2 p3 p4 p5 p6
  have hbx := HBX.out w4 HB4.out
  have p0 := at_cell (i := 0) hbx rfl
  have p1 := at_cell (i := 1) hbx rfl
  have p2 := at_cell (i := 2) hbx rfl
  have p3 := at_cell (i := 3) hbx rfl
  have p4 := at_cell (i := 4) hbx rfl
  have p5 := at_cell (i := 5) hbx rfl
  have p6 := at_cell (i := 6) hbx rfl
  clear hbx
  go_wp2_with fail
  refine (HNM.out _ (HRW.out _ HB4.out)).mono ?_
  rintro e w5 ⟨vn, rfl, hvn, hb⟩
  obtain ⟨ns, hns⟩ : ∃ ns, ns = rnames ⟨1, t, u, o, m, g⟩ l := ⟨_, rfl⟩
  rw [← hns] at hvn htab hfre hnl
  obtain ⟨An, cn, rfl, hAn⟩ := own_slice hvn
  have HB5 := Lib.hid (HB4.out.trans (hb.mono (HZ.out _ HB4.out)))
  obtain ⟨mm, hmm⟩ : ∃ mm, mm = ns.length := ⟨_, rfl⟩
  have HMM := Lib.hid hmm
  have H5 : Hid (DnRel B0 (w.heap.size + 1) (w.alloc (.cells #[.int .i64 1, .string (tx t), .int .u64 u, .slice A n c, .int .u64 o, .int .u64 m, .string (tx g)] 26)) tl ns (.slice An ns.length cn) (.slice L tl.length cT) (.slice (some ⟨w.heap.size + 1, 0, none⟩) 0 0) (.int .i64 0) w5) := by
    refine ⟨0, _, _, rfl, rfl, by omega, rfl, HT4.out.below hb, HO4.out.below hb, hvn.less (by omega), fun gg e1 e2 => ?_, fun gg e1 e2 => ?_, HB5.out⟩
    · have h1 := HTLT.out _ e2
      obtain rfl : w.heap.size + 1 = gg := by simpa [Value.ownBlock] using e1
      omega
    · have h1 := own_block hvn _ e2
      obtain rfl : w.heap.size + 1 = gg := by simpa [Value.ownBlock] using e1
      have h2 := own_lt HO4.out _ e1
      omega
  have HNL := Lib.hid hnl.1
  have hm18 : mm ≤ 18 := by rw [hmm]; exact hnl.2
  rw [← hmm] at H5 ⊢
  clear hvn hb hns hnl hmm HNM HT4 HO4 HB4 HTLT
  clear p0 p1 p2 p3 p4 p5 p6
  go_wp2
  go_loopw [1, 9, 11] (fun v1 v9 v11 wr => DnRel B0 (w.heap.size + 1) (w.alloc (.cells #[.int .i64 1, .string (tx t), .int .u64 u, .slice A n c, .int .u64 o, .int .u64 m, .string (tx g)] 26)) tl ns (.slice An mm cn) v1 v9 v11 wr) (fun _ _ v11 _ => mm - (intOf v11).toNat)
  case atStart => exact H5.out
  case round =>
    obtain ⟨i, a1, a9, rfl, rfl, hi, rfl, ht, ho, hon, hap1, hap2, hbr⟩ := hrel
    clear H5
    rw [← HMM.out] at hi
    obtain ⟨L1, c1, rfl, hL1⟩ := own_slice ht
    obtain ⟨L9, c9, rfl, hL9⟩ := own_slice ho
    have HTr := Lib.hid ht
    have HOr := Lib.hid ho
    have HONr := Lib.hid hon
    have HAP1 := Lib.hid hap1
    have HAP2 := Lib.hid hap2
    have HBr := Lib.hid hbr
    have hf1 := freshL_len (ns.take i) tl
    have hf2 := tfold_len (ns.take i) tl
    rw [List.length_take] at hf1 hf2
    clear hap1 hap2 hbr
    by_cases hlt : i < mm
    · obtain ⟨s, hs⟩ : ∃ s, ns[i]? = some s := ⟨_, List.getElem?_eq_getElem (by rw [← HMM.out]; exact hlt)⟩
      have hon2 : wr.ownsRow 0 9 1 (.slice An mm cn) mm (ns.map tsv) := by have h := hon; unfold Own at h; rwa [← HMM.out] at h
      obtain ⟨adn, rfl, _, hcx⟩ := (Reads.of_own hon2).2 (by omega)
      clear hon2
      have k0 := hcx i (tsv s) (by rw [List.getElem?_map, hs]; rfl)
      have HNC : Hid (∀ W, Own W 0 (.slice (some adn) mm cn) ns → W.cell? (adn.add i) = some (.string (tx s))) := fun W h => by
        have h2 : W.ownsRow 0 9 1 (.slice (some adn) mm cn) mm (ns.map tsv) := by unfold Own at h; rwa [← HMM.out] at h
        obtain ⟨ad2, e2, _, hc2⟩ := (Reads.of_own h2).2 (by omega)
        obtain rfl : adn = ad2 := Option.some.inj e2
        exact hc2 i (tsv s) (by rw [List.getElem?_map, hs]; rfl)
      have hsl := HNL.out s (List.mem_of_getElem? hs)
      have hpl := place_any L1 ((ns.take i).foldl tput tl).length c1 ((ns.take i).foldl tput tl) s (by omega) wr (Reads.of_own ht)
      unfold tsv at k0 hpl
      have hi0 : (0 : Int) ≤ (i : Int) := by omega
      have hi1 : (i : Int) < (mm : Int) := by omega
      have HS := Lib.hid hs
      by_cases hin : s ∈ (ns.take i).foldl tput tl
      · have HNI := Lib.hid (nm_in hs hin ht ho)
        rw [tplace_in hin] at hpl
        have HPL := Lib.hid hpl
        generalize tnum ((ns.take i).foldl tput tl) s = q at HPL
        have hq0 : decide ((q : Int) < 0) = false := decide_eq_false (by omega)
        generalize hT0 : ((ns.take i).foldl tput tl).length = nT at *
        generalize hF0 : (freshL tl (ns.take i)).length = nF at *
        clear hcx ht ho hon hin hpl hs hf1 hf2 hT0 hF0
        go_wp2_with fail
        refine HPL.out.mono ?_
        rintro e w6 ⟨rfl, rfl⟩
        go_wp2
        exact ⟨⟨i + 1, _, _, rfl, rfl, by rw [← HMM.out]; omega, by go_num, HNI.out.1, HNI.out.2, HONr.out, HAP1.out, HAP2.out, HBr.out⟩, by simp [intOf]; omega⟩
      · have HNE := Lib.hid (nm_new hs hin)
        rw [tplace_out hin] at hpl
        have HPL := Lib.hid hpl
        have hadd : ∀ W : World, (Op.stringOp .add { data := #[0] } (tx s)).run Try.prog W = .ok (.string (tx (0 :: s))) W := fun W => add_tx W [0] s (by simp; omega)
        have HPUT := Lib.hid (fun W hb hl => iput_any B0 (.slice L1 ((ns.take i).foldl tput tl).length c1) ((ns.take i).foldl tput tl) s (by omega) W hb hl)
        unfold tsv at HPUT
        obtain ⟨nT, hnT⟩ : ∃ nT, nT = ((ns.take i).foldl tput tl).length := ⟨_, rfl⟩
        obtain ⟨nF, hnF⟩ : ∃ nF, nF = (freshL tl (ns.take i)).length := ⟨_, rfl⟩
        have HNT := Lib.hid hnT
        have HNF := Lib.hid hnF
        have HTr2 : Hid (Own wr B0 (.slice L1 nT c1) ((ns.take i).foldl tput tl)) := by rw [hnT]; exact ht
        have HOr2 : Hid (wr.ownsRow (w.heap.size + 1) 9 1 (.slice L9 nF c9) nF ((freshL tl (ns.take i)).map tsv)) := by rw [hnF]; exact ho
        have HONr2 : Hid (Own wr 0 (.slice (some adn) mm cn) ns) := hon
        have HA1 : Hid (Apart (.slice L9 nF c9) (.slice L1 nT c1)) := by rw [hnF, hnT]; exact HAP1.out
        have HA2 : Hid (Apart (.slice L9 nF c9) (.slice (some adn) mm cn)) := by rw [hnF]; exact HAP2.out
        rw [← hnT] at HPL HPUT
        rw [← hnF] at hf1
        rw [← hnT, ← hnF]
        have hnF2 : nF ≤ 100 := by omega
        clear hcx ht ho hon hin hpl hs hf1 hf2 hnT hnF HTr HOr HONr HAP1 HAP2
        go_wp2_with fail
        refine HPL.out.mono ?_
        rintro e w6 ⟨rfl, rfl⟩
        have HO2 := Lib.hid (World.ownsRow.alloc HOr2.out (.cells #[.string (tx (0 :: s))] 9))
        have HR2 := Lib.hid (reads_one_row wr 9 (.string (tx (0 :: s))))
        have HB2 := Lib.hid (HBr.out.alloc (HZ.out _ HBr.out) (.cells #[.string (tx (0 :: s))] 9))
        go_wp2_with (at_builtin; refine wpList_append_told _ rfl (.tmp 48) (.tmp 54) 22 rfl (w.heap.size + 1) 9 i0 _ 1 16 Try.underlying22 ii0 iz0 iz1 iz2 rfl (by decide) _ nF _ rfl HO2.out (some ⟨wr.heap.size, 0, none⟩) 1 1 (wr.heap.size + 1) [.string (tx (0 :: s))] rfl (by simp) HR2.out (fun u hu => by obtain rfl := List.mem_singleton.1 hu; rfl) (by unfold maxLen; omega) (by omega) (HZ.out _ HB2.out) ?_; intro v7 w7 ho7 hg7 hv7; have hv7b : v7.ownBlock = (Value.slice L9 nF c9).ownBlock ∨ v7.ownBlock = some (wr.alloc (.cells #[.string (tx (0 :: s))] 9)).heap.size := hv7; have hg7b : (wr.alloc (.cells #[.string (tx (0 :: s))] 9)).grownBy w7 (Value.slice L9 nF c9).ownBlock := hg7; have HO7 := Lib.hid ho7; have HB7 := Lib.hid (HB2.out.grown hg7b (HZ.out _ HB2.out) (own_block HO2.out)); have HT7 := Lib.hid (own_kept (World.ownsRow.alloc HTr2.out (.cells #[.string (tx (0 :: s))] 9)) HA1.out hg7b); have HN7 := Lib.hid (own_kept (World.ownsRow.alloc HONr2.out (.cells #[.string (tx (0 :: s))] 9)) HA2.out hg7b); have HA71 := Lib.hid (apart_told HA1.out (World.ownsRow.alloc HTr2.out (.cells #[.string (tx (0 :: s))] 9)) hv7b); have HA72 := Lib.hid (apart_told HA2.out (World.ownsRow.alloc HONr2.out (.cells #[.string (tx (0 :: s))] 9)) hv7b); have k7 := HNC.out _ HN7.out; clear ho7 hg7 hv7 hv7b hg7b)
        refine (HPUT.out w7 (by have := HZ.out _ HB7.out; omega) HT7.out).mono ?_
        rintro e w8 ⟨v8, rfl, ho8, hv8, hb8⟩
        obtain ⟨L8, c8, rfl, _⟩ := own_slice ho8
        have HB8 := Lib.hid (HB7.out.trans (hb8.mono (HZ.out _ HB7.out)))
        have HA81 : Hid (Apart v7 (.slice L8 (tput ((ns.take i).foldl tput tl) s).length c8)) := by
          rcases hv8 with h | h
          · rw [h]; exact HA71.out
          · exact apart_up HO7.out h
        have HO8 := Lib.hid ho8
        have HO78 := Lib.hid (own_below HO7.out hb8)
        have HN8 := Lib.hid (own_below HN7.out hb8)
        clear ho8 hv8 hb8
        go_wp2
        exact ⟨⟨i + 1, _, _, rfl, rfl, by rw [← HMM.out]; omega, by go_num, by rw [HNE.out.1]; exact HO8.out, by rw [HNE.out.2]; unfold Own; rw [List.length_append, List.map_append, ← HNF.out]; exact HO78.out, HN8.out, HA81.out, HA72.out, HB8.out⟩, by simp [intOf]; omega⟩
    · obtain rfl : i = mm := by omega
      have htk : ns.take i = ns := List.take_of_length_le (by rw [← HMM.out]; omega)
      rw [htk] at ht ho HAP1 HTr HOr
      rw [htk]
      rw [← htab.out] at ht HAP1 HTr ⊢
      obtain ⟨nT, hnT⟩ : ∃ nT, nT = T.length := ⟨_, rfl⟩
      obtain ⟨nO, hnO⟩ : ∃ nO, nO = (freshL tl ns).length := ⟨_, rfl⟩
      have HNT := Lib.hid hnT
      have HNO := Lib.hid hnO
      have HTT : Hid (wr.ownsRow B0 9 1 (.slice L1 nT c1) nT (T.map tsv)) := by rw [hnT]; exact ht
      have HOO : Hid (wr.ownsRow (w.heap.size + 1) 9 1 (.slice L9 nO c9) nO ((freshL tl ns).map tsv)) := by rw [hnO]; exact ho
      have HAP : Hid (Apart (.slice L9 nO c9) (.slice L1 nT c1)) := by rw [hnO, hnT]; exact HAP1.out
      have hnT2 : nT ≤ 200000 := by rw [hnT]; exact hT2
      have hnO2 : nO ≤ 100 := by rw [hnO]; have := freshL_len ns tl; rw [← HMM.out] at this; omega
      rw [← hnT, ← hnO]
      obtain ⟨LT, rfl⟩ : ∃ LT, LT = L1 := ⟨_, rfl⟩
      obtain ⟨LO, rfl⟩ : ∃ LO, LO = L9 := ⟨_, rfl⟩
      obtain ⟨cX, rfl⟩ : ∃ cX, cX = c1 := ⟨_, rfl⟩
      obtain ⟨cO, rfl⟩ : ∃ cO, cO = c9 := ⟨_, rfl⟩
      clear ht ho hon HTr HOr HONr HAP1 HAP2 hf1 hf2 htk hnT hnO
      have hbx := HBX.out wr HBr.out
      have p0 := at_cell (i := 0) hbx rfl
      have p1 := at_cell (i := 1) hbx rfl
      have p2 := at_cell (i := 2) hbx rfl
      have p3 := at_cell (i := 3) hbx rfl
      have p4 := at_cell (i := 4) hbx rfl
      have p5 := at_cell (i := 5) hbx rfl
      have p6 := at_cell (i := 6) hbx rfl
      clear hbx
      obtain ⟨s1, hs1⟩ : ∃ s1, s1 = bk ++ nm := ⟨_, rfl⟩
      have ls1 : s1.length ≤ 100 := by rw [hs1, List.length_append]; omega
      have as1 := fun W : World => add_tx (P := Try.prog) W bk nm (by omega)
      rw [← hs1] at as1
      have Hs1 := Lib.hid hs1
      clear hs1
      have HBC := HBr
      go_wp2_with fail
      refine wp_region_held (S := fun W => Below wr.heap.size wr W) (by kernel_rfl) ?_
      have hS : Below wr.heap.size wr wr.drew := (Below.refl _ _).drew
      refine h_take 0 (.pointer (some ⟨w.heap.size, 0, none⟩)) rfl (by kernel_rfl) (by kernel_rfl) (by kernel_rfl) (fun _ _ _ h => h) (by kernel_rfl) hS (fun _ _ => by kernel_rfl) ?_
      refine h_take 1 (.int .i64 1) rfl (by kernel_rfl) (by kernel_rfl) (by kernel_rfl) (fun _ _ _ h => h) (by kernel_rfl) hS (by intro v hv; have q := (hv.cell (p := ⟨w.heap.size, 0, none⟩) (by have := HZ.out _ HBC.out; show w.heap.size < _; omega)).trans p0; go_simp) ?_
      refine h_take 2 (.int .u64 1) rfl (by kernel_rfl) (by kernel_rfl) (by kernel_rfl) (fun _ _ _ h => h) (by kernel_rfl) hS (fun _ _ => by kernel_rfl) ?_
      refine h_take 4 (.int .i64 2) rfl (by kernel_rfl) (by kernel_rfl) (by kernel_rfl) (fun _ _ _ h => h) (by kernel_rfl) hS (fun _ _ => by kernel_rfl) ?_
      refine h_take 5 (.slice LT nT cX) rfl (by kernel_rfl) (by kernel_rfl) (by kernel_rfl) (fun _ _ _ h => h) (by kernel_rfl) hS (fun _ _ => by kernel_rfl) ?_
      refine h_take 6 (.pointer (some ⟨w.heap.size, 1, none⟩)) rfl (by kernel_rfl) (by kernel_rfl) (by kernel_rfl) (fun _ _ _ h => h) (by kernel_rfl) hS (fun _ _ => by kernel_rfl) ?_
      refine h_take 7 (.string (tx t)) rfl (by kernel_rfl) (by kernel_rfl) (by kernel_rfl) (fun _ _ _ h => h) (by kernel_rfl) hS (by intro v hv; have q := (hv.cell (p := ⟨w.heap.size, 1, none⟩) (by have := HZ.out _ HBC.out; show w.heap.size < _; omega)).trans p1; go_simp) ?_
      refine h_one 3 rfl (by kernel_rfl) (by kernel_rfl) (fun K hK => ?_)
      go_simp
      refine (HK.out _).mono ?_
      rintro e w10 ⟨rfl, hb⟩
      have hS2 : Below wr.heap.size wr w10 := hS.trans (hb.mono hS.size)
      refine hK _ _ hS2 ?_
      clear hK K hb
      refine h_one 8 rfl (by kernel_rfl) (by kernel_rfl) (fun K hK => ?_)
      go_simp
      refine (doctext_any 2 (by omega) LT nT cX T t (by omega) HINT.out (by omega) w10 (((Reads.of_own HTT.out).below hS2).more hS2.size)).mono ?_
      rintro e w11 ⟨rfl, hb⟩
      rw [← HNME.out]
      have hS3 : Below wr.heap.size wr w11 := hS2.trans (hb.mono hS2.size)
      refine hK _ _ hS3 ?_
      clear hK K hb
      refine h_take 9 (.string (tx s1)) rfl (by kernel_rfl) (by kernel_rfl) (by kernel_rfl) (fun _ _ _ h => h) (by kernel_rfl) hS3 (by intro v hv; go_simp) ?_
      refine h_take 10 (.string (tx s1)) rfl (by kernel_rfl) (by kernel_rfl) (by kernel_rfl) (fun _ _ _ h => h) (by kernel_rfl) hS3 (fun _ _ => by kernel_rfl) ?_
      refine wpAnyH_done (by kernel_rfl) ?_ _
      go_simp
      clear hS hS2 HBC
      have HB21 := Lib.hid (HBr.out.trans (hS3.mono (HZ.out _ HBr.out)))
      have HTT21 := Lib.hid (own_below HTT.out hS3)
      have HOO21 := Lib.hid (own_below HOO.out hS3)
      clear hS3
      clear p0 p1 p2 p3 p4 p5 p6
      have hbx := HBX.out w11 HB21.out
      have p0 := at_cell (i := 0) hbx rfl
      have p1 := at_cell (i := 1) hbx rfl
      have p2 := at_cell (i := 2) hbx rfl
      have p3 := at_cell (i := 3) hbx rfl
      have p4 := at_cell (i := 4) hbx rfl
      have p5 := at_cell (i := 5) hbx rfl
      have p6 := at_cell (i := 6) hbx rfl
      clear hbx
      obtain ⟨s2, hs2⟩ : ∃ s2, s2 = s1 ++ bu := ⟨_, rfl⟩
      have ls2 : s2.length ≤ 200 := by rw [hs2, List.length_append]; omega
      have as2 := fun W : World => add_tx (P := Try.prog) W s1 bu (by omega)
      rw [← hs2] at as2
      have Hs2 := Lib.hid hs2
      clear hs2
      obtain ⟨s3, hs3⟩ : ∃ s3, s3 = s2 ++ bn := ⟨_, rfl⟩
      have ls3 : s3.length ≤ 300 := by rw [hs3, List.length_append]; omega
      have as3 := fun W : World => add_tx (P := Try.prog) W s2 bn (by omega)
      rw [← hs3] at as3
      have Hs3 := Lib.hid hs3
      clear hs3
      have HBC := HB21
      go_wp2_with fail
      refine wp_region_held (S := fun W => Below w11.heap.size w11 W) (by kernel_rfl) ?_
      have hS : Below w11.heap.size w11 w11.drew := (Below.refl _ _).drew
      refine h_take 0 (.string (tx s1)) rfl (by kernel_rfl) (by kernel_rfl) (by kernel_rfl) (fun _ _ _ h => h) (by kernel_rfl) hS (fun _ _ => by kernel_rfl) ?_
      refine h_take 1 (.pointer (some ⟨w.heap.size, 2, none⟩)) rfl (by kernel_rfl) (by kernel_rfl) (by kernel_rfl) (fun _ _ _ h => h) (by kernel_rfl) hS (fun _ _ => by kernel_rfl) ?_
      refine h_take 2 (.int .u64 u) rfl (by kernel_rfl) (by kernel_rfl) (by kernel_rfl) (fun _ _ _ h => h) (by kernel_rfl) hS (by intro v hv; have q := (hv.cell (p := ⟨w.heap.size, 2, none⟩) (by have := HZ.out _ HBC.out; show w.heap.size < _; omega)).trans p2; go_simp) ?_
      refine h_take 5 (.pointer (some ⟨w.heap.size, 3, none⟩)) rfl (by kernel_rfl) (by kernel_rfl) (by kernel_rfl) (fun _ _ _ h => h) (by kernel_rfl) hS (fun _ _ => by kernel_rfl) ?_
      refine h_take 6 (.slice A n c) rfl (by kernel_rfl) (by kernel_rfl) (by kernel_rfl) (fun _ _ _ h => h) (by kernel_rfl) hS (by intro v hv; have q := (hv.cell (p := ⟨w.heap.size, 3, none⟩) (by have := HZ.out _ HBC.out; show w.heap.size < _; omega)).trans p3; go_simp) ?_
      refine h_take 7 (.int .i64 (n : Int)) rfl (by kernel_rfl) (by kernel_rfl) (by kernel_rfl) (fun _ _ _ h => h) (by kernel_rfl) hS (by intro v hv; go_simp) ?_
      refine h_take 8 (.int .u64 (n : Int)) rfl (by kernel_rfl) (by kernel_rfl) (by kernel_rfl) (fun _ _ _ h => h) (by kernel_rfl) hS (by intro v hv; go_simp; rw [IntKind.wrap_u64]; omega) ?_
      refine h_one 3 rfl (by kernel_rfl) (by kernel_rfl) (fun K hK => ?_)
      go_simp
      refine (HU.out _).mono ?_
      rintro e w12 ⟨rfl, hb⟩
      have hS2 : Below w11.heap.size w11 w12 := hS.trans (hb.mono hS.size)
      refine hK _ _ hS2 ?_
      clear hK K hb
      refine h_take 4 (.string (tx s2)) rfl (by kernel_rfl) (by kernel_rfl) (by kernel_rfl) (fun _ _ _ h => h) (by kernel_rfl) hS2 (by intro v hv; go_simp) ?_
      refine h_one 9 rfl (by kernel_rfl) (by kernel_rfl) (fun K hK => ?_)
      go_simp
      refine (HN.out _).mono ?_
      rintro e w13 ⟨rfl, hb⟩
      have hS3 : Below w11.heap.size w11 w13 := hS2.trans (hb.mono hS2.size)
      refine hK _ _ hS3 ?_
      clear hK K hb
      refine h_take 10 (.string (tx s3)) rfl (by kernel_rfl) (by kernel_rfl) (by kernel_rfl) (fun _ _ _ h => h) (by kernel_rfl) hS3 (by intro v hv; go_simp) ?_
      refine h_take 11 (.string (tx s3)) rfl (by kernel_rfl) (by kernel_rfl) (by kernel_rfl) (fun _ _ _ h => h) (by kernel_rfl) hS3 (fun _ _ => by kernel_rfl) ?_
      refine wpAnyH_done (by kernel_rfl) ?_ _
      go_simp
      clear hS hS2 HBC as1 as2 as3
      have HB22 := Lib.hid (HB21.out.trans (hS3.mono (HZ.out _ HB21.out)))
      have HTT22 := Lib.hid (own_below HTT21.out hS3)
      have HOO22 := Lib.hid (own_below HOO21.out hS3)
      clear hS3
      clear p0 p1 p2 p3 p4 p5 p6
      have hbx := HBX.out w13 HB22.out
      have p0 := at_cell (i := 0) hbx rfl
      have p1 := at_cell (i := 1) hbx rfl
      have p2 := at_cell (i := 2) hbx rfl
      have p3 := at_cell (i := 3) hbx rfl
      have p4 := at_cell (i := 4) hbx rfl
      have p5 := at_cell (i := 5) hbx rfl
      have p6 := at_cell (i := 6) hbx rfl
      clear hbx
      clear p0 p1 p2 p3 p4 p5 p6
      have H6 : Hid (DqRel 2 T s3 l w13 (.string (tx s3)) (.int .i64 0) w13) := ⟨0, by omega, rfl, by simp, Below.refl _ _⟩
      have HLN := hln2
      go_wp2
      go_loopw [12, 13] (fun v12 v13 wr => DqRel 2 T s3 l w13 v12 v13 wr) (fun _ v13 _ => n - (intOf v13).toNat)
      case atStart => exact H6.out
      case round =>
        obtain ⟨j, hj, rfl, rfl, hbr⟩ := hrel
        clear H6
        rw [HLN.out] at hj
        have HBQ := Lib.hid (HB22.out.trans (hbr.mono (HZ.out _ HB22.out)))
        have HTQ := Lib.hid (own_below HTT22.out hbr)
        have HOQ := Lib.hid (own_below HOO22.out hbr)
        have HBRQ := Lib.hid hbr
        clear hbr
        have hfl := HFL.out j
        have hbx := HBX.out _ HBQ.out
        have p0 := at_cell (i := 0) hbx rfl
        have p1 := at_cell (i := 1) hbx rfl
        have p2 := at_cell (i := 2) hbx rfl
        have p3 := at_cell (i := 3) hbx rfl
        have p4 := at_cell (i := 4) hbx rfl
        have p5 := at_cell (i := 5) hbx rfl
        have p6 := at_cell (i := 6) hbx rfl
        clear hbx
        by_cases hlt : j < n
        · obtain ⟨x, hx⟩ : ∃ x, l[j]? = some x := ⟨_, List.getElem?_eq_getElem (by rw [HLN.out]; exact hlt)⟩
          have hmx := List.mem_of_getElem? hx
          obtain ⟨ad, rfl, _, hcx⟩ := (HRW.out _ HBQ.out).2 (by omega)
          obtain ⟨x0, x1, x2⟩ := dps_at l j x hx
          have k0 := hcx _ _ x0
          have k1 := hcx _ _ x1
          have k2 := hcx _ _ x2
          rw [add_one] at k1
          rw [add_two] at k2
          have hxn := HN4.out x hmx
          have hxd := HIND.out x hmx
          have hxh := HNU.out.2.2.2 x hmx
          have hsn := dq_snoc (ver := 2) (T := T) (s := s3) hx
          obtain ⟨xn, xh, xo⟩ := x
          simp only at k0 k1 k2 hxn hxd hxh
          unfold rsv at k0
          obtain ⟨cs, hcs⟩ : ∃ cs, cs = s3 ++ (l.take j).flatMap (fDep 2 T) := ⟨_, rfl⟩
          have lcs : cs.length ≤ 2000 := by rw [hcs, List.length_append]; omega
          rw [← hcs] at hsn ⊢
          obtain ⟨bh, hbh⟩ : ∃ bh, bh = vb xh.toNat := ⟨_, rfl⟩
          have lbh : bh.length ≤ 10 := by rw [hbh]; exact vb_len _ (num_nat hxh).2
          have HH := Lib.hid (fun W => refput_any xh.toNat (num_nat hxh).2 W)
          rw [← hbh, ← (num_nat hxh).1] at HH
          have HBXD := Lib.hid (one_new wr (.cells #[.string (tx xn), .int .u64 xh, .bool xo] 56))
          have HBD := Lib.hid (HBQ.out.alloc (HZ.out _ HBQ.out) (.cells #[.string (tx xn), .int .u64 xh, .bool xo] 56))
          have HBRD := Lib.hid (HBRQ.out.alloc HBRQ.out.size (.cells #[.string (tx xn), .int .u64 xh, .bool xo] 56))
          have HTD := Lib.hid (World.ownsRow.alloc HTQ.out (.cells #[.string (tx xn), .int .u64 xh, .bool xo] 56))
          have d0 := at_cell (i := 0) HBXD.out rfl
          have d1 := at_cell (i := 1) HBXD.out rfl
          have d2 := at_cell (i := 2) HBXD.out rfl
          have hi0 : (0 : Int) ≤ (j : Int) := by omega
          have hi1 : (j : Int) < (n : Int) := by omega
          clear hx hmx hcx x0 x1 x2 hfl hcs
          have hnb := nmB_len (ver := 2) (tl := T) hxn (by omega)
          obtain ⟨dn, hdn⟩ : ∃ dn, dn = nmB 2 T xn := ⟨_, rfl⟩
          rw [← hdn] at hnb
          have hse : s3 ++ (l.take (j + 1)).flatMap (fDep 2 T) = (cs ++ dn) ++ bh := by rw [hsn, hdn, hbh]; unfold fDep depB; rw [if_pos (by omega)]; simp
          obtain ⟨c1, hc1⟩ : ∃ c1, c1 = cs ++ dn := ⟨_, rfl⟩
          obtain ⟨c2, hc2⟩ : ∃ c2, c2 = c1 ++ bh := ⟨_, rfl⟩
          have lc1 : c1.length ≤ 3000 := by rw [hc1, List.length_append]; omega
          have ac1 := fun W : World => add_tx (P := Try.prog) W cs dn (by omega)
          have ac2 := fun W : World => add_tx (P := Try.prog) W c1 bh (by omega)
          rw [← hc1] at ac1 hse
          rw [← hc2] at ac2 hse
          have HSE := Lib.hid hse
          have HDN := Lib.hid hdn
          have HTX := Lib.hid (fun W (hb : Below (wr.alloc (.cells #[.string (tx xn), .int .u64 xh, .bool xo] 56)).heap.size (wr.alloc (.cells #[.string (tx xn), .int .u64 xh, .bool xo] 56)) W) => doctext_any 2 (by omega) LT nT cX T xn (by omega) hxd (by omega) W (((Reads.of_own HTD.out).below hb).more hb.size))
          rw [← hdn] at HTX
          clear hse hsn hdn hc1 hc2 hbh hxd hxh
          go_wp2_with fail
          refine (HTX.out _ (Below.refl _ _)).mono ?_
          rintro e w14 ⟨rfl, hb⟩
          have hd14 := (hb.block wr.heap.size (by simp)).trans HBXD.out
          have e1 := at_cell (i := 1) hd14 rfl
          have HB14 := Lib.hid (HBRD.out.trans (hb.mono HBRD.out.size))
          clear hd14 hb d0 d1 d2
          go_wp2_with fail
          refine (HH.out _).mono ?_
          rintro e w15 ⟨rfl, hb⟩
          have HB15 := Lib.hid (HB14.out.trans (hb.mono HB14.out.size))
          clear hb
          go_wp2
          exact ⟨⟨j + 1, by rw [HLN.out]; omega, by go_num, by rw [HSE.out], HB15.out⟩, by simp [intOf]; omega⟩
        · obtain rfl : j = n := by omega
          rw [List.take_of_length_le (by rw [HLN.out]; exact Nat.le_refl _)]
          have hfl2 := HFL.out l.length
          rw [List.take_length] at hfl2
          rw [HLN.out] at hfl2
          obtain ⟨fl, hfle⟩ : ∃ fl, fl = l.flatMap (fDep 2 T) := ⟨_, rfl⟩
          rw [← hfle] at hfl2
          obtain ⟨s4, hs4⟩ : ∃ s4, s4 = s3 ++ fl := ⟨_, rfl⟩
          have ls4 : s4.length ≤ 2000 := by rw [hs4, List.length_append]; omega
          rw [← hfle, ← hs4]
          have Hs4 := Lib.hid hs4
          have HFLE := Lib.hid hfle
          clear hfl hs4 hfle hfl2
          obtain ⟨s5, hs5⟩ : ∃ s5, s5 = s4 ++ bo := ⟨_, rfl⟩
          have ls5 : s5.length ≤ 3500 := by rw [hs5, List.length_append]; omega
          have as5 := fun W : World => add_tx (P := Try.prog) W s4 bo (by omega)
          rw [← hs5] at as5
          have Hs5 := Lib.hid hs5
          clear hs5
          go_wp2_with fail
          refine (HO.out _).mono ?_
          rintro e wq ⟨rfl, hb⟩
          obtain ⟨ws5, rfl⟩ : ∃ ws5, ws5 = wq := ⟨_, rfl⟩
          have HB61 := Lib.hid (HBQ.out.trans (hb.mono (HZ.out _ HBQ.out)))
          have HTT61 := Lib.hid (own_below HTQ.out hb)
          have HOO61 := Lib.hid (own_below HOQ.out hb)
          clear hb
          clear p0 p1 p2 p3 p4 p5 p6
          have hbx := HBX.out ws5 HB61.out
          have p0 := at_cell (i := 0) hbx rfl
          have p1 := at_cell (i := 1) hbx rfl
          have p2 := at_cell (i := 2) hbx rfl
          have p3 := at_cell (i := 3) hbx rfl
          have p4 := at_cell (i := 4) hbx rfl
          have p5 := at_cell (i := 5) hbx rfl
          have p6 := at_cell (i := 6) hbx rfl
          clear hbx
          obtain ⟨s6, hs6⟩ : ∃ s6, s6 = s5 ++ bm := ⟨_, rfl⟩
          have ls6 : s6.length ≤ 3600 := by rw [hs6, List.length_append]; omega
          have as6 := fun W : World => add_tx (P := Try.prog) W s5 bm (by omega)
          rw [← hs6] at as6
          have Hs6 := Lib.hid hs6
          clear hs6
          go_wp2_with fail
          refine (HM.out _).mono ?_
          rintro e wq ⟨rfl, hb⟩
          obtain ⟨ws6, rfl⟩ : ∃ ws6, ws6 = wq := ⟨_, rfl⟩
          have HB62 := Lib.hid (HB61.out.trans (hb.mono (HZ.out _ HB61.out)))
          have HTT62 := Lib.hid (own_below HTT61.out hb)
          have HOO62 := Lib.hid (own_below HOO61.out hb)
          clear hb
          clear p0 p1 p2 p3 p4 p5 p6
          have hbx := HBX.out ws6 HB62.out
          have p0 := at_cell (i := 0) hbx rfl
          have p1 := at_cell (i := 1) hbx rfl
          have p2 := at_cell (i := 2) hbx rfl
          have p3 := at_cell (i := 3) hbx rfl
          have p4 := at_cell (i := 4) hbx rfl
          have p5 := at_cell (i := 5) hbx rfl
          have p6 := at_cell (i := 6) hbx rfl
          clear hbx
          obtain ⟨nO1, hO1⟩ : ∃ nO1, nO1 = nO + 1 := ⟨_, rfl⟩
          clear hO1
          have HO2 := Lib.hid (World.ownsRow.alloc HOO62.out (.cells #[.string (tx s6)] 9))
          have HT2 := Lib.hid (World.ownsRow.alloc HTT62.out (.cells #[.string (tx s6)] 9))
          have HR2 := Lib.hid (reads_one_row ws6 9 (.string (tx s6)))
          have HB2 := Lib.hid (HB62.out.alloc (HZ.out _ HB62.out) (.cells #[.string (tx s6)] 9))
          go_wp2_with (at_builtin; refine wpList_append_told _ rfl (.tmp 164) (.tmp 166) 22 rfl (w.heap.size + 1) 9 i0 _ 1 16 Try.underlying22 ii0 iz0 iz1 iz2 rfl (by decide) _ nO _ rfl HO2.out (some ⟨ws6.heap.size, 0, none⟩) 1 1 (ws6.heap.size + 1) [.string (tx s6)] rfl (by simp) HR2.out (fun u hu => by obtain rfl := List.mem_singleton.1 hu; rfl) (by unfold maxLen; omega) (by omega) (HZ.out _ HB2.out) ?_; intro v7 w7 ho7 hg7 hv7; have hg7b : (ws6.alloc (.cells #[.string (tx s6)] 9)).grownBy w7 (Value.slice LO nO cO).ownBlock := hg7; have HO7 := Lib.hid ho7; have HB7 := Lib.hid (HB2.out.grown hg7b (HZ.out _ HB2.out) (own_block HO2.out)); have HT7 := Lib.hid (own_kept HT2.out HAP.out hg7b); clear ho7 hg7 hv7 hg7b)
          go_ret3
          refine ⟨_, _, rfl, ?_, ?_, HW0.out.trans (HB7.out.mono (by omega))⟩
          · rw [hpl.out, hfre.out, hfin.out, ← Hs1.out, ← Hs2.out, ← Hs3.out, ← HFLE.out, ← Hs4.out, ← Hs5.out, ← Hs6.out]
            unfold Own
            rw [List.length_append, List.map_append, ← HNO.out]
            exact own_less HO7.out (by omega)
          · unfold Own
            rw [← HNT.out]
            exact HT7.out

end Go.Proofs.Ytfidfhajnobonaa

/- The document's Put of a record that may be. -/
namespace Go.Proofs.Ytfidfhajnobonaa
open Go.RowKit

set_option maxRecDepth 100000 in
set_option maxHeartbeats 4000000 in
theorem rp12 (tl : List (List UInt8)) (t g : List UInt8) (u o m : Int) (A : Option Addr) (n c : Nat) (l : List Dp) (hm : MayP 1 ⟨2, t, u, o, m, g⟩ l) (hnu : Nums ⟨2, t, u, o, m, g⟩ l) (hfit : Fits ⟨2, t, u, o, m, g⟩ l) (tv : Value) (htl : tl.length ≤ 100000) (w : World) (B0 : Nat) (hT : Own w B0 tv tl) (hr : Reads w w.heap.size 3 A n (dps l)) :
    Calls Try.prog 12 #[.int .i64 1, tv, .agg #[.int .i64 2, .string (tx t), .int .u64 u, .slice A n c, .int .u64 o, .int .u64 m, .string (tx g)]] w fun e w' => ∃ v1 v2, e = .returned (.tuple #[v1, v2, .int .i64 0]) ∧ Own w' w.heap.size v1 (payL 1 tl ⟨2, t, u, o, m, g⟩ l) ∧ Own w' B0 v2 (tabT 1 tl ⟨2, t, u, o, m, g⟩ l) ∧ Below w.heap.size w w' := by
  obtain ⟨i0, ii0, iz0, iz1, iz2⟩ := info_parts (show (Try.prog.info? 9).map (fun i => (i.zero, i.size, i.bytes)) = some (some (.string { data := #[] }), 1, 16) from by kernel_rfl)
  obtain ⟨n1, n2, n3, n4⟩ := may_names hm
  have hln : l.length = n := by have := hr.1; rw [dps_len] at this; omega
  have hn16 : n ≤ 16 := by omega
  have hTL := tabT_len (tl := tl) hm
  have hin := tabT_mem 1 tl ⟨2, t, u, o, m, g⟩ l
  obtain ⟨T, hTe⟩ : ∃ T, T = tabT 1 tl ⟨2, t, u, o, m, g⟩ l := ⟨_, rfl⟩
  rw [← hTe] at hin hTL
  have hT2 : T.length ≤ 200000 := by omega
  have hnm : (nmB 1 T t).length ≤ 74 := nmB_len n1 (by omega)
  have hinT : (1 : Int) < 2 ∨ t ∈ T := hin.imp id fun h => h _ (tnew_mem (by simp))
  have hinD : ∀ d ∈ l, (1 : Int) < 2 ∨ d.name ∈ T := fun d hd => hin.imp id fun h => h _ (tnew_mem (by
    refine List.mem_append.2 (.inl (List.mem_cons.2 (.inr ?_)))
    exact List.mem_map.2 ⟨d, hd, rfl⟩))
  obtain ⟨nm, hnme⟩ : ∃ nm, nm = nmB 1 T t := ⟨_, rfl⟩
  rw [← hnme] at hnm
  obtain ⟨bk, hbk⟩ : ∃ bk, bk = vb 2 := ⟨_, rfl⟩
  have lbk : bk.length ≤ 10 := by rw [hbk]; exact vb_len _ (by unfold top; omega)
  have HK := Lib.hid (fun W => refput_any 2 (by unfold top; omega) W)
  rw [← hbk] at HK
  have hfin : Hid (payB 1 T ⟨2, t, u, o, m, g⟩ l = bk ++ nm) := by
    show _ = _
    rw [hbk, hnme]
    unfold payB
    rw [vb_lt (show 2 < 128 by omega)]
    simp
  have hpl : Hid (payL 1 tl ⟨2, t, u, o, m, g⟩ l = freT 1 tl ⟨2, t, u, o, m, g⟩ l ++ [payB 1 T ⟨2, t, u, o, m, g⟩ l]) := by show _ = _; unfold payL; rw [← hTe]
  have hfre : Hid (freT 1 tl ⟨2, t, u, o, m, g⟩ l = []) := by show _ = _; unfold freT; rw [if_pos (by omega)]
  have htab : Hid (T = tl) := by show _ = _; rw [hTe]; unfold tabT; rw [if_pos (by omega)]
  rw [← hTe]
  have hmay := Lib.hid (fun W hw => rmay_any 1 ⟨2, t, u, o, m, g⟩ A n c l (by omega) hfit W hw)
  have HMAY := Lib.hid hm
  have HR := Lib.hid hr
  obtain ⟨L, cT, rfl, hLc⟩ := own_slice hT
  have HT := Lib.hid hT
  obtain ⟨X0, hX0⟩ : ∃ X0, X0 = w.alloc (.cells #[.int .i64 2, .string (tx t), .int .u64 u, .slice A n c, .int .u64 o, .int .u64 m, .string (tx g)] 26) := ⟨_, rfl⟩
  have hz0 : Hid (X0.heap.size = w.heap.size + 1) := by show _ = _; rw [hX0]; simp
  have hbx0 := one_new w (.cells #[.int .i64 2, .string (tx t), .int .u64 u, .slice A n c, .int .u64 o, .int .u64 m, .string (tx g)] 26)
  rw [← hX0] at hbx0
  have HBX : Hid (∀ W, Below (w.heap.size + 1) X0 W → W.heap[w.heap.size]? = some (.cells #[.int .i64 2, .string (tx t), .int .u64 u, .slice A n c, .int .u64 o, .int .u64 m, .string (tx g)] 26 (0, 0))) := fun W h => (h.block _ (by omega)).trans hbx0
  have HW0 : Hid (Below w.heap.size w X0) := by rw [hX0]; exact (Below.refl w.heap.size w).alloc (Nat.le_refl _) _
  have HB3 : Hid (Below (w.heap.size + 1) X0 (X0.alloc (.cells #[] 9))) := (Below.refl _ _).alloc (by rw [hz0.out]; exact Nat.le_refl _) _
  have HZ : Hid (∀ W, Below (w.heap.size + 1) X0 W → w.heap.size + 1 ≤ W.heap.size) := fun W h => by have h1 := h.size; rw [hz0.out] at h1; exact h1
  have HRW : Hid (∀ W, Below (w.heap.size + 1) X0 W → Reads W W.heap.size 3 A n (dps l)) := fun W h => (HR.out.below (HW0.out.trans (h.mono (by omega)))).more (by have h1 := h.size; rw [hz0.out] at h1; omega)
  have HO3 : Hid (Own (X0.alloc (.cells #[] 9)) (w.heap.size + 1) (.slice (some ⟨w.heap.size + 1, 0, none⟩) 0 0) []) := by
    have h1 := own_empty X0 9
    rw [hz0.out] at h1
    exact h1
  have HT3 : Hid (Own (X0.alloc (.cells #[] 9)) B0 (.slice L tl.length cT) tl) := HT.out.below (HW0.out.trans (HB3.out.mono (by omega)))
  rw [hX0] at HBX HW0 HB3 HZ HRW HO3 HT3
  unfold rcv rsv at hmay
  clear hm hr hfit hTe hbx0 hz0 HR hX0 hbk hin hLc
  have hln2 : Hid (l.length = n) := hln
  clear hln
  have HNME := Lib.hid hnme
  clear hnme
  have HNU := Lib.hid hnu
  have HN4 := Lib.hid n4
  have HIND := Lib.hid hinD
  clear hnu n4 hinD
  have HTLT : Hid (∀ gg, (Value.slice L tl.length cT).ownBlock = some gg → gg < w.heap.size) := own_lt HT.out
  clear hT
  have HINT := Lib.hid hinT
  clear hinT
  have hbx := HBX.out ((w.alloc (.cells #[.int .i64 2, .string (tx t), .int .u64 u, .slice A n c, .int .u64 o, .int .u64 m, .string (tx g)] 26)).alloc (.cells #[] 9)) HB3.out
  have p0 := at_cell (i := 0) hbx rfl
  have p1 := at_cell (i := 1) hbx rfl
  have p2 := at_cell (i := 2) hbx rfl
  have p3 := at_cell (i := 3) hbx rfl
  have p4 := at_cell (i := 4) hbx rfl
  have p5 := at_cell (i := 5) hbx rfl
  have p6 := at_cell (i := 6) hbx rfl
  clear hbx
  go_enter Try.func12, Try.ntmps12
  go_wp2_with fail
  refine (hmay.out _ (HRW.out _ HB3.out)).mono ?_
  rintro e w4 ⟨he, hb⟩
  obtain rfl := he.yes HMAY.out
  have HB4 := Lib.hid (HB3.out.trans (hb.mono (HZ.out _ HB3.out)))
  have HO4 := Lib.hid (HO3.out.below hb)
  have HT4 := Lib.hid (HT3.out.below hb)
  clear he hb hmay HMAY HO3 HT3
  clear p0 p1 p2 p3 p4 p5 p6
  have hbx := HBX.out w4 HB4.out
  have p0 := at_cell (i := 0) hbx rfl
  have p1 := at_cell (i := 1) hbx rfl
  have p2 := at_cell (i := 2) hbx rfl
  have p3 := at_cell (i := 3) hbx rfl
  have p4 := at_cell (i := 4) hbx rfl
  have p5 := at_cell (i := 5) hbx rfl
  have p6 := at_cell (i := 6) hbx rfl
  clear hbx
  obtain ⟨nT, hnT⟩ : ∃ nT, nT = tl.length := ⟨_, rfl⟩
  obtain ⟨nO, hnO⟩ : ∃ nO, nO = 0 := ⟨_, rfl⟩
  obtain ⟨FR, hFR⟩ : ∃ FR : List (List UInt8), FR = [] := ⟨_, rfl⟩
  have HNT : Hid (nT = T.length) := by rw [htab.out]; exact hnT
  have HNO : Hid (nO = FR.length) := by rw [hFR]; exact hnO
  have HTT : Hid (w4.ownsRow B0 9 1 (.slice L nT cT) nT (T.map tsv)) := by rw [hnT, htab.out]; exact HT4.out
  have HOO : Hid (w4.ownsRow (w.heap.size + 1) 9 1 (.slice (some ⟨w.heap.size + 1, 0, none⟩) 0 0) 0 (FR.map tsv)) := by rw [hFR]; exact HO4.out
  have HAP : Hid (Apart (.slice (some ⟨w.heap.size + 1, 0, none⟩) 0 0) (.slice L nT cT)) := fun gg e1 e2 => by
    rw [hnT] at e2
    have h1 := HTLT.out _ e2
    obtain rfl : w.heap.size + 1 = gg := by simpa [Value.ownBlock] using e1
    omega
  have hnT2 : nT ≤ 200000 := by omega
  rw [← hnT]
  rw [← hFR] at hfre
  subst hnO
  obtain ⟨LT, rfl⟩ : ∃ LT, LT = L := ⟨_, rfl⟩
  obtain ⟨cX, rfl⟩ : ∃ cX, cX = cT := ⟨_, rfl⟩
  clear hnT hFR HTLT
  clear p0 p1 p2 p3 p4 p5 p6
  have hbx := HBX.out w4 HB4.out
  have p0 := at_cell (i := 0) hbx rfl
  have p1 := at_cell (i := 1) hbx rfl
  have p2 := at_cell (i := 2) hbx rfl
  have p3 := at_cell (i := 3) hbx rfl
  have p4 := at_cell (i := 4) hbx rfl
  have p5 := at_cell (i := 5) hbx rfl
  have p6 := at_cell (i := 6) hbx rfl
  clear hbx
  obtain ⟨s1, hs1⟩ : ∃ s1, s1 = bk ++ nm := ⟨_, rfl⟩
  have ls1 : s1.length ≤ 100 := by rw [hs1, List.length_append]; omega
  have as1 := fun W : World => add_tx (P := Try.prog) W bk nm (by omega)
  rw [← hs1] at as1
  have Hs1 := Lib.hid hs1
  clear hs1
  have HBC := HB4
  go_wp2_with fail
  refine wp_region_held (S := fun W => Below w4.heap.size w4 W) (by kernel_rfl) ?_
  have hS : Below w4.heap.size w4 w4.drew := (Below.refl _ _).drew
  refine h_take 0 (.pointer (some ⟨w.heap.size, 0, none⟩)) rfl (by kernel_rfl) (by kernel_rfl) (by kernel_rfl) (fun _ _ _ h => h) (by kernel_rfl) hS (fun _ _ => by kernel_rfl) ?_
  refine h_take 1 (.int .i64 2) rfl (by kernel_rfl) (by kernel_rfl) (by kernel_rfl) (fun _ _ _ h => h) (by kernel_rfl) hS (by intro v hv; have q := (hv.cell (p := ⟨w.heap.size, 0, none⟩) (by have := HZ.out _ HBC.out; show w.heap.size < _; omega)).trans p0; go_simp) ?_
  refine h_take 2 (.int .u64 2) rfl (by kernel_rfl) (by kernel_rfl) (by kernel_rfl) (fun _ _ _ h => h) (by kernel_rfl) hS (fun _ _ => by kernel_rfl) ?_
  refine h_take 4 (.int .i64 1) rfl (by kernel_rfl) (by kernel_rfl) (by kernel_rfl) (fun _ _ _ h => h) (by kernel_rfl) hS (fun _ _ => by kernel_rfl) ?_
  refine h_take 5 (.slice LT nT cX) rfl (by kernel_rfl) (by kernel_rfl) (by kernel_rfl) (fun _ _ _ h => h) (by kernel_rfl) hS (fun _ _ => by kernel_rfl) ?_
  refine h_take 6 (.pointer (some ⟨w.heap.size, 1, none⟩)) rfl (by kernel_rfl) (by kernel_rfl) (by kernel_rfl) (fun _ _ _ h => h) (by kernel_rfl) hS (fun _ _ => by kernel_rfl) ?_
  refine h_take 7 (.string (tx t)) rfl (by kernel_rfl) (by kernel_rfl) (by kernel_rfl) (fun _ _ _ h => h) (by kernel_rfl) hS (by intro v hv; have q := (hv.cell (p := ⟨w.heap.size, 1, none⟩) (by have := HZ.out _ HBC.out; show w.heap.size < _; omega)).trans p1; go_simp) ?_
  refine h_one 3 rfl (by kernel_rfl) (by kernel_rfl) (fun K hK => ?_)
  go_simp
  refine (HK.out _).mono ?_
  rintro e w10 ⟨rfl, hb⟩
  have hS2 : Below w4.heap.size w4 w10 := hS.trans (hb.mono hS.size)
  refine hK _ _ hS2 ?_
  clear hK K hb
  refine h_one 8 rfl (by kernel_rfl) (by kernel_rfl) (fun K hK => ?_)
  go_simp
  refine (doctext_any 1 (by omega) LT nT cX T t (by omega) HINT.out (by omega) w10 (((Reads.of_own HTT.out).below hS2).more hS2.size)).mono ?_
  rintro e w11 ⟨rfl, hb⟩
  rw [← HNME.out]
  have hS3 : Below w4.heap.size w4 w11 := hS2.trans (hb.mono hS2.size)
  refine hK _ _ hS3 ?_
  clear hK K hb
  refine h_take 9 (.string (tx s1)) rfl (by kernel_rfl) (by kernel_rfl) (by kernel_rfl) (fun _ _ _ h => h) (by kernel_rfl) hS3 (by intro v hv; go_simp) ?_
  refine h_take 10 (.string (tx s1)) rfl (by kernel_rfl) (by kernel_rfl) (by kernel_rfl) (fun _ _ _ h => h) (by kernel_rfl) hS3 (fun _ _ => by kernel_rfl) ?_
  refine wpAnyH_done (by kernel_rfl) ?_ _
  go_simp
  clear hS hS2 HBC
  have HB21 := Lib.hid (HB4.out.trans (hS3.mono (HZ.out _ HB4.out)))
  have HTT21 := Lib.hid (own_below HTT.out hS3)
  have HOO21 := Lib.hid (own_below HOO.out hS3)
  clear hS3
  clear p0 p1 p2 p3 p4 p5 p6
  have hbx := HBX.out w11 HB21.out
  have p0 := at_cell (i := 0) hbx rfl
  have p1 := at_cell (i := 1) hbx rfl
  have p2 := at_cell (i := 2) hbx rfl
  have p3 := at_cell (i := 3) hbx rfl
  have p4 := at_cell (i := 4) hbx rfl
  have p5 := at_cell (i := 5) hbx rfl
  have p6 := at_cell (i := 6) hbx rfl
  clear hbx
  obtain ⟨nO1, hO1⟩ : ∃ nO1, nO1 = 0 + 1 := ⟨_, rfl⟩
  clear hO1
  have HO2 := Lib.hid (World.ownsRow.alloc HOO21.out (.cells #[.string (tx s1)] 9))
  have HT2 := Lib.hid (World.ownsRow.alloc HTT21.out (.cells #[.string (tx s1)] 9))
  have HR2 := Lib.hid (reads_one_row w11 9 (.string (tx s1)))
  have HB2 := Lib.hid (HB21.out.alloc (HZ.out _ HB21.out) (.cells #[.string (tx s1)] 9))
  go_wp2_with (at_builtin; refine wpList_append_told _ rfl (.tmp 164) (.tmp 166) 22 rfl (w.heap.size + 1) 9 i0 _ 1 16 Try.underlying22 ii0 iz0 iz1 iz2 rfl (by decide) _ 0 _ rfl HO2.out (some ⟨w11.heap.size, 0, none⟩) 1 1 (w11.heap.size + 1) [.string (tx s1)] rfl (by simp) HR2.out (fun u hu => by obtain rfl := List.mem_singleton.1 hu; rfl) (by unfold maxLen; omega) (by omega) (HZ.out _ HB2.out) ?_; intro v7 w7 ho7 hg7 hv7; have hg7b : (w11.alloc (.cells #[.string (tx s1)] 9)).grownBy w7 (Value.slice (some ⟨w.heap.size + 1, 0, none⟩) 0 0).ownBlock := hg7; have HO7 := Lib.hid ho7; have HB7 := Lib.hid (HB2.out.grown hg7b (HZ.out _ HB2.out) (own_block HO2.out)); have HT7 := Lib.hid (own_kept HT2.out HAP.out hg7b); clear ho7 hg7 hv7 hg7b)
  go_ret3
  refine ⟨_, _, rfl, ?_, ?_, HW0.out.trans (HB7.out.mono (by omega))⟩
  · rw [hpl.out, hfre.out, hfin.out, ← Hs1.out]
    unfold Own
    rw [List.length_append, List.map_append, ← HNO.out]
    exact own_less HO7.out (by omega)
  · unfold Own
    rw [← HNT.out]
    exact HT7.out

set_option maxRecDepth 100000 in
set_option maxHeartbeats 4000000 in
theorem rp11 (tl : List (List UInt8)) (t g : List UInt8) (u o m : Int) (A : Option Addr) (n c : Nat) (l : List Dp) (hm : MayP 1 ⟨1, t, u, o, m, g⟩ l) (hnu : Nums ⟨1, t, u, o, m, g⟩ l) (hfit : Fits ⟨1, t, u, o, m, g⟩ l) (tv : Value) (htl : tl.length ≤ 100000) (w : World) (B0 : Nat) (hT : Own w B0 tv tl) (hr : Reads w w.heap.size 3 A n (dps l)) :
    Calls Try.prog 12 #[.int .i64 1, tv, .agg #[.int .i64 1, .string (tx t), .int .u64 u, .slice A n c, .int .u64 o, .int .u64 m, .string (tx g)]] w fun e w' => ∃ v1 v2, e = .returned (.tuple #[v1, v2, .int .i64 0]) ∧ Own w' w.heap.size v1 (payL 1 tl ⟨1, t, u, o, m, g⟩ l) ∧ Own w' B0 v2 (tabT 1 tl ⟨1, t, u, o, m, g⟩ l) ∧ Below w.heap.size w w' := by
  obtain ⟨i0, ii0, iz0, iz1, iz2⟩ := info_parts (show (Try.prog.info? 9).map (fun i => (i.zero, i.size, i.bytes)) = some (some (.string { data := #[] }), 1, 16) from by kernel_rfl)
  obtain ⟨n1, n2, n3, n4⟩ := may_names hm
  have hln : l.length = n := by have := hr.1; rw [dps_len] at this; omega
  have hn16 : n ≤ 16 := by omega
  have hTL := tabT_len (tl := tl) hm
  have hin := tabT_mem 1 tl ⟨1, t, u, o, m, g⟩ l
  obtain ⟨T, hTe⟩ : ∃ T, T = tabT 1 tl ⟨1, t, u, o, m, g⟩ l := ⟨_, rfl⟩
  rw [← hTe] at hin hTL
  have hT2 : T.length ≤ 200000 := by omega
  have hnm : (nmB 1 T t).length ≤ 74 := nmB_len n1 (by omega)
  have hinT : (1 : Int) < 2 ∨ t ∈ T := hin.imp id fun h => h _ (tnew_mem (by simp))
  have hinD : ∀ d ∈ l, (1 : Int) < 2 ∨ d.name ∈ T := fun d hd => hin.imp id fun h => h _ (tnew_mem (by
    refine List.mem_append.2 (.inl (List.mem_cons.2 (.inr ?_)))
    exact List.mem_map.2 ⟨d, hd, rfl⟩))
  obtain ⟨nm, hnme⟩ : ∃ nm, nm = nmB 1 T t := ⟨_, rfl⟩
  rw [← hnme] at hnm
  obtain ⟨bk, hbk⟩ : ∃ bk, bk = vb 1 := ⟨_, rfl⟩
  have lbk : bk.length ≤ 10 := by rw [hbk]; exact vb_len _ (by unfold top; omega)
  have HK := Lib.hid (fun W => refput_any 1 (by unfold top; omega) W)
  rw [← hbk] at HK
  have hFL := fun k => fDeps_take (ver := 1) (tl := T) (l := l) (m := k) n4 hnu.2.2.2 (by omega)
  obtain ⟨bu, hbu⟩ : ∃ bu, bu = vb u.toNat := ⟨_, rfl⟩
  have lbu : bu.length ≤ 10 := by rw [hbu]; exact vb_len _ (num_nat hnu.1).2
  have HU := Lib.hid (fun W => refput_any u.toNat (num_nat hnu.1).2 W)
  rw [← hbu, ← (num_nat hnu.1).1] at HU
  obtain ⟨bn, hbn⟩ : ∃ bn, bn = vb n := ⟨_, rfl⟩
  have lbn : bn.length ≤ 10 := by rw [hbn]; exact vb_len _ (by unfold top; omega)
  have HN := Lib.hid (fun W => refput_any n (by unfold top; omega) W)
  rw [← hbn] at HN
  obtain ⟨bo, hbo⟩ : ∃ bo, bo = vb o.toNat := ⟨_, rfl⟩
  have lbo : bo.length ≤ 10 := by rw [hbo]; exact vb_len _ (num_nat hnu.2.1).2
  have HO := Lib.hid (fun W => refput_any o.toNat (num_nat hnu.2.1).2 W)
  rw [← hbo, ← (num_nat hnu.2.1).1] at HO
  have hfin : Hid (payB 1 T ⟨1, t, u, o, m, g⟩ l = ((((bk ++ nm) ++ bu) ++ bn) ++ l.flatMap (fDep 1 T)) ++ bo) := by
    show _ = _
    rw [hbk, hnme, hbu, hbn, hbo]
    unfold payB fDeps
    rw [vb_lt (show 1 < 128 by omega), hln]
    simp
  have hpl : Hid (payL 1 tl ⟨1, t, u, o, m, g⟩ l = freT 1 tl ⟨1, t, u, o, m, g⟩ l ++ [payB 1 T ⟨1, t, u, o, m, g⟩ l]) := by show _ = _; unfold payL; rw [← hTe]
  have hfre : Hid (freT 1 tl ⟨1, t, u, o, m, g⟩ l = []) := by show _ = _; unfold freT; rw [if_pos (by omega)]
  have htab : Hid (T = tl) := by show _ = _; rw [hTe]; unfold tabT; rw [if_pos (by omega)]
  rw [← hTe]
  have hmay := Lib.hid (fun W hw => rmay_any 1 ⟨1, t, u, o, m, g⟩ A n c l (by omega) hfit W hw)
  have HMAY := Lib.hid hm
  have HR := Lib.hid hr
  obtain ⟨L, cT, rfl, hLc⟩ := own_slice hT
  have HT := Lib.hid hT
  obtain ⟨X0, hX0⟩ : ∃ X0, X0 = w.alloc (.cells #[.int .i64 1, .string (tx t), .int .u64 u, .slice A n c, .int .u64 o, .int .u64 m, .string (tx g)] 26) := ⟨_, rfl⟩
  have hz0 : Hid (X0.heap.size = w.heap.size + 1) := by show _ = _; rw [hX0]; simp
  have hbx0 := one_new w (.cells #[.int .i64 1, .string (tx t), .int .u64 u, .slice A n c, .int .u64 o, .int .u64 m, .string (tx g)] 26)
  rw [← hX0] at hbx0
  have HBX : Hid (∀ W, Below (w.heap.size + 1) X0 W → W.heap[w.heap.size]? = some (.cells #[.int .i64 1, .string (tx t), .int .u64 u, .slice A n c, .int .u64 o, .int .u64 m, .string (tx g)] 26 (0, 0))) := fun W h => (h.block _ (by omega)).trans hbx0
  have HW0 : Hid (Below w.heap.size w X0) := by rw [hX0]; exact (Below.refl w.heap.size w).alloc (Nat.le_refl _) _
  have HB3 : Hid (Below (w.heap.size + 1) X0 (X0.alloc (.cells #[] 9))) := (Below.refl _ _).alloc (by rw [hz0.out]; exact Nat.le_refl _) _
  have HZ : Hid (∀ W, Below (w.heap.size + 1) X0 W → w.heap.size + 1 ≤ W.heap.size) := fun W h => by have h1 := h.size; rw [hz0.out] at h1; exact h1
  have HRW : Hid (∀ W, Below (w.heap.size + 1) X0 W → Reads W W.heap.size 3 A n (dps l)) := fun W h => (HR.out.below (HW0.out.trans (h.mono (by omega)))).more (by have h1 := h.size; rw [hz0.out] at h1; omega)
  have HO3 : Hid (Own (X0.alloc (.cells #[] 9)) (w.heap.size + 1) (.slice (some ⟨w.heap.size + 1, 0, none⟩) 0 0) []) := by
    have h1 := own_empty X0 9
    rw [hz0.out] at h1
    exact h1
  have HT3 : Hid (Own (X0.alloc (.cells #[] 9)) B0 (.slice L tl.length cT) tl) := HT.out.below (HW0.out.trans (HB3.out.mono (by omega)))
  rw [hX0] at HBX HW0 HB3 HZ HRW HO3 HT3
  unfold rcv rsv at hmay
  clear hm hr hfit hTe hbx0 hz0 HR hX0 hbk hin hLc
  have hln2 : Hid (l.length = n) := hln
  clear hln
  have HNME := Lib.hid hnme
  clear hnme
  have HNU := Lib.hid hnu
  have HN4 := Lib.hid n4
  have HIND := Lib.hid hinD
  clear hnu n4 hinD
  have HFL := Lib.hid hFL
  clear hFL hbu hbn hbo
  have HTLT : Hid (∀ gg, (Value.slice L tl.length cT).ownBlock = some gg → gg < w.heap.size) := own_lt HT.out
  clear hT
  have HINT := Lib.hid hinT
  clear hinT
  have hbx := HBX.out ((w.alloc (.cells #[.int .i64 1, .string (tx t), .int .u64 u, .slice A n c, .int .u64 o, .int .u64 m, .string (tx g)] 26)).alloc (.cells #[] 9)) HB3.out
  have p0 := at_cell (i := 0) hbx rfl
  have p1 := at_cell (i := 1) hbx rfl
  have p2 := at_cell (i := 2) hbx rfl
  have p3 := at_cell (i := 3) hbx rfl
  have p4 := at_cell (i := 4) hbx rfl
  have p5 := at_cell (i := 5) hbx rfl
  have p6 := at_cell (i := 6) hbx rfl
  clear hbx
  go_enter Try.func12, Try.ntmps12
  go_wp2_with fail
  refine (hmay.out _ (HRW.out _ HB3.out)).mono ?_
  rintro e w4 ⟨he, hb⟩
  obtain rfl := he.yes HMAY.out
  have HB4 := Lib.hid (HB3.out.trans (hb.mono (HZ.out _ HB3.out)))
  have HO4 := Lib.hid (HO3.out.below hb)
  have HT4 := Lib.hid (HT3.out.below hb)
  clear he hb hmay HMAY HO3 HT3
  clear p0 p1 p2 p3 p4 p5 p6
  have hbx := HBX.out w4 HB4.out
  have p0 := at_cell (i := 0) hbx rfl
  have p1 := at_cell (i := 1) hbx rfl
  have p2 := at_cell (i := 2) hbx rfl
  have p3 := at_cell (i := 3) hbx rfl
  have p4 := at_cell (i := 4) hbx rfl
  have p5 := at_cell (i := 5) hbx rfl
  have p6 := at_cell (i := 6) hbx rfl
  clear hbx
  obtain ⟨nT, hnT⟩ : ∃ nT, nT = tl.length := ⟨_, rfl⟩
  obtain ⟨nO, hnO⟩ : ∃ nO, nO = 0 := ⟨_, rfl⟩
  obtain ⟨FR, hFR⟩ : ∃ FR : List (List UInt8), FR = [] := ⟨_, rfl⟩
  have HNT : Hid (nT = T.length) := by rw [htab.out]; exact hnT
  have HNO : Hid (nO = FR.length) := by rw [hFR]; exact hnO
  have HTT : Hid (w4.ownsRow B0 9 1 (.slice L nT cT) nT (T.map tsv)) := by rw [hnT, htab.out]; exact HT4.out
  have HOO : Hid (w4.ownsRow (w.heap.size + 1) 9 1 (.slice (some ⟨w.heap.size + 1, 0, none⟩) 0 0) 0 (FR.map tsv)) := by rw [hFR]; exact HO4.out
  have HAP : Hid (Apart (.slice (some ⟨w.heap.size + 1, 0, none⟩) 0 0) (.slice L nT cT)) := fun gg e1 e2 => by
    rw [hnT] at e2
    have h1 := HTLT.out _ e2
    obtain rfl : w.heap.size + 1 = gg := by simpa [Value.ownBlock] using e1
    omega
  have hnT2 : nT ≤ 200000 := by omega
  rw [← hnT]
  rw [← hFR] at hfre
  subst hnO
  obtain ⟨LT, rfl⟩ : ∃ LT, LT = L := ⟨_, rfl⟩
  obtain ⟨cX, rfl⟩ : ∃ cX, cX = cT := ⟨_, rfl⟩
  clear hnT hFR HTLT
  clear p0 p1 p2 p3 p4 p5 p6
  have hbx := HBX.out w4 HB4.out
  have p0 := at_cell (i := 0) hbx rfl
  have p1 := at_cell (i := 1) hbx rfl
  have p2 := at_cell (i := 2) hbx rfl
  have p3 := at_cell (i := 3) hbx rfl
  have p4 := at_cell (i := 4) hbx rfl
  have p5 := at_cell (i := 5) hbx rfl
  have p6 := at_cell (i := 6) hbx rfl
  clear hbx
  obtain ⟨s1, hs1⟩ : ∃ s1, s1 = bk ++ nm := ⟨_, rfl⟩
  have ls1 : s1.length ≤ 100 := by rw [hs1, List.length_append]; omega
  have as1 := fun W : World => add_tx (P := Try.prog) W bk nm (by omega)
  rw [← hs1] at as1
  have Hs1 := Lib.hid hs1
  clear hs1
  have HBC := HB4
  go_wp2_with fail
  refine wp_region_held (S := fun W => Below w4.heap.size w4 W) (by kernel_rfl) ?_
  have hS : Below w4.heap.size w4 w4.drew := (Below.refl _ _).drew
  refine h_take 0 (.pointer (some ⟨w.heap.size, 0, none⟩)) rfl (by kernel_rfl) (by kernel_rfl) (by kernel_rfl) (fun _ _ _ h => h) (by kernel_rfl) hS (fun _ _ => by kernel_rfl) ?_
  refine h_take 1 (.int .i64 1) rfl (by kernel_rfl) (by kernel_rfl) (by kernel_rfl) (fun _ _ _ h => h) (by kernel_rfl) hS (by intro v hv; have q := (hv.cell (p := ⟨w.heap.size, 0, none⟩) (by have := HZ.out _ HBC.out; show w.heap.size < _; omega)).trans p0; go_simp) ?_
  refine h_take 2 (.int .u64 1) rfl (by kernel_rfl) (by kernel_rfl) (by kernel_rfl) (fun _ _ _ h => h) (by kernel_rfl) hS (fun _ _ => by kernel_rfl) ?_
  refine h_take 4 (.int .i64 1) rfl (by kernel_rfl) (by kernel_rfl) (by kernel_rfl) (fun _ _ _ h => h) (by kernel_rfl) hS (fun _ _ => by kernel_rfl) ?_
  refine h_take 5 (.slice LT nT cX) rfl (by kernel_rfl) (by kernel_rfl) (by kernel_rfl) (fun _ _ _ h => h) (by kernel_rfl) hS (fun _ _ => by kernel_rfl) ?_
  refine h_take 6 (.pointer (some ⟨w.heap.size, 1, none⟩)) rfl (by kernel_rfl) (by kernel_rfl) (by kernel_rfl) (fun _ _ _ h => h) (by kernel_rfl) hS (fun _ _ => by kernel_rfl) ?_
  refine h_take 7 (.string (tx t)) rfl (by kernel_rfl) (by kernel_rfl) (by kernel_rfl) (fun _ _ _ h => h) (by kernel_rfl) hS (by intro v hv; have q := (hv.cell (p := ⟨w.heap.size, 1, none⟩) (by have := HZ.out _ HBC.out; show w.heap.size < _; omega)).trans p1; go_simp) ?_
  refine h_one 3 rfl (by kernel_rfl) (by kernel_rfl) (fun K hK => ?_)
  go_simp
  refine (HK.out _).mono ?_
  rintro e w10 ⟨rfl, hb⟩
  have hS2 : Below w4.heap.size w4 w10 := hS.trans (hb.mono hS.size)
  refine hK _ _ hS2 ?_
  clear hK K hb
  refine h_one 8 rfl (by kernel_rfl) (by kernel_rfl) (fun K hK => ?_)
  go_simp
  refine (doctext_any 1 (by omega) LT nT cX T t (by omega) HINT.out (by omega) w10 (((Reads.of_own HTT.out).below hS2).more hS2.size)).mono ?_
  rintro e w11 ⟨rfl, hb⟩
  rw [← HNME.out]
  have hS3 : Below w4.heap.size w4 w11 := hS2.trans (hb.mono hS2.size)
  refine hK _ _ hS3 ?_
  clear hK K hb
  refine h_take 9 (.string (tx s1)) rfl (by kernel_rfl) (by kernel_rfl) (by kernel_rfl) (fun _ _ _ h => h) (by kernel_rfl) hS3 (by intro v hv; go_simp) ?_
  refine h_take 10 (.string (tx s1)) rfl (by kernel_rfl) (by kernel_rfl) (by kernel_rfl) (fun _ _ _ h => h) (by kernel_rfl) hS3 (fun _ _ => by kernel_rfl) ?_
  refine wpAnyH_done (by kernel_rfl) ?_ _
  go_simp
  clear hS hS2 HBC
  have HB21 := Lib.hid (HB4.out.trans (hS3.mono (HZ.out _ HB4.out)))
  have HTT21 := Lib.hid (own_below HTT.out hS3)
  have HOO21 := Lib.hid (own_below HOO.out hS3)
  clear hS3
  clear p0 p1 p2 p3 p4 p5 p6
  have hbx := HBX.out w11 HB21.out
  have p0 := at_cell (i := 0) hbx rfl
  have p1 := at_cell (i := 1) hbx rfl
  have p2 := at_cell (i := 2) hbx rfl
  have p3 := at_cell (i := 3) hbx rfl
  have p4 := at_cell (i := 4) hbx rfl
  have p5 := at_cell (i := 5) hbx rfl
  have p6 := at_cell (i := 6) hbx rfl
  clear hbx
  obtain ⟨s2, hs2⟩ : ∃ s2, s2 = s1 ++ bu := ⟨_, rfl⟩
  have ls2 : s2.length ≤ 200 := by rw [hs2, List.length_append]; omega
  have as2 := fun W : World => add_tx (P := Try.prog) W s1 bu (by omega)
  rw [← hs2] at as2
  have Hs2 := Lib.hid hs2
  clear hs2
  obtain ⟨s3, hs3⟩ : ∃ s3, s3 = s2 ++ bn := ⟨_, rfl⟩
  have ls3 : s3.length ≤ 300 := by rw [hs3, List.length_append]; omega
  have as3 := fun W : World => add_tx (P := Try.prog) W s2 bn (by omega)
  rw [← hs3] at as3
  have Hs3 := Lib.hid hs3
  clear hs3
  have HBC := HB21
  go_wp2_with fail
  refine wp_region_held (S := fun W => Below w11.heap.size w11 W) (by kernel_rfl) ?_
  have hS : Below w11.heap.size w11 w11.drew := (Below.refl _ _).drew
  refine h_take 0 (.string (tx s1)) rfl (by kernel_rfl) (by kernel_rfl) (by kernel_rfl) (fun _ _ _ h => h) (by kernel_rfl) hS (fun _ _ => by kernel_rfl) ?_
  refine h_take 1 (.pointer (some ⟨w.heap.size, 2, none⟩)) rfl (by kernel_rfl) (by kernel_rfl) (by kernel_rfl) (fun _ _ _ h => h) (by kernel_rfl) hS (fun _ _ => by kernel_rfl) ?_
  refine h_take 2 (.int .u64 u) rfl (by kernel_rfl) (by kernel_rfl) (by kernel_rfl) (fun _ _ _ h => h) (by kernel_rfl) hS (by intro v hv; have q := (hv.cell (p := ⟨w.heap.size, 2, none⟩) (by have := HZ.out _ HBC.out; show w.heap.size < _; omega)).trans p2; go_simp) ?_
  refine h_take 5 (.pointer (some ⟨w.heap.size, 3, none⟩)) rfl (by kernel_rfl) (by kernel_rfl) (by kernel_rfl) (fun _ _ _ h => h) (by kernel_rfl) hS (fun _ _ => by kernel_rfl) ?_
  refine h_take 6 (.slice A n c) rfl (by kernel_rfl) (by kernel_rfl) (by kernel_rfl) (fun _ _ _ h => h) (by kernel_rfl) hS (by intro v hv; have q := (hv.cell (p := ⟨w.heap.size, 3, none⟩) (by have := HZ.out _ HBC.out; show w.heap.size < _; omega)).trans p3; go_simp) ?_
  refine h_take 7 (.int .i64 (n : Int)) rfl (by kernel_rfl) (by kernel_rfl) (by kernel_rfl) (fun _ _ _ h => h) (by kernel_rfl) hS (by intro v hv; go_simp) ?_
  refine h_take 8 (.int .u64 (n : Int)) rfl (by kernel_rfl) (by kernel_rfl) (by kernel_rfl) (fun _ _ _ h => h) (by kernel_rfl) hS (by intro v hv; go_simp; rw [IntKind.wrap_u64]; omega) ?_
  refine h_one 3 rfl (by kernel_rfl) (by kernel_rfl) (fun K hK => ?_)
  go_simp
  refine (HU.out _).mono ?_
  rintro e w12 ⟨rfl, hb⟩
  have hS2 : Below w11.heap.size w11 w12 := hS.trans (hb.mono hS.size)
  refine hK _ _ hS2 ?_
  clear hK K hb
  refine h_take 4 (.string (tx s2)) rfl (by kernel_rfl) (by kernel_rfl) (by kernel_rfl) (fun _ _ _ h => h) (by kernel_rfl) hS2 (by intro v hv; go_simp) ?_
  refine h_one 9 rfl (by kernel_rfl) (by kernel_rfl) (fun K hK => ?_)
  go_simp
  refine (HN.out _).mono ?_
  rintro e w13 ⟨rfl, hb⟩
  have hS3 : Below w11.heap.size w11 w13 := hS2.trans (hb.mono hS2.size)
  refine hK _ _ hS3 ?_
  clear hK K hb
  refine h_take 10 (.string (tx s3)) rfl (by kernel_rfl) (by kernel_rfl) (by kernel_rfl) (fun _ _ _ h => h) (by kernel_rfl) hS3 (by intro v hv; go_simp) ?_
  refine h_take 11 (.string (tx s3)) rfl (by kernel_rfl) (by kernel_rfl) (by kernel_rfl) (fun _ _ _ h => h) (by kernel_rfl) hS3 (fun _ _ => by kernel_rfl) ?_
  refine wpAnyH_done (by kernel_rfl) ?_ _
  go_simp
  clear hS hS2 HBC as1 as2 as3
  have HB22 := Lib.hid (HB21.out.trans (hS3.mono (HZ.out _ HB21.out)))
  have HTT22 := Lib.hid (own_below HTT21.out hS3)
  have HOO22 := Lib.hid (own_below HOO21.out hS3)
  clear hS3
  clear p0 p1 p2 p3 p4 p5 p6
  have hbx := HBX.out w13 HB22.out
  have p0 := at_cell (i := 0) hbx rfl
  have p1 := at_cell (i := 1) hbx rfl
  have p2 := at_cell (i := 2) hbx rfl
  have p3 := at_cell (i := 3) hbx rfl
  have p4 := at_cell (i := 4) hbx rfl
  have p5 := at_cell (i := 5) hbx rfl
  have p6 := at_cell (i := 6) hbx rfl
  clear hbx
  clear p0 p1 p2 p3 p4 p5 p6
  have H6 : Hid (DqRel 1 T s3 l w13 (.string (tx s3)) (.int .i64 0) w13) := ⟨0, by omega, rfl, by simp, Below.refl _ _⟩
  have HLN := hln2
  go_wp2
  go_loopw [12, 13] (fun v12 v13 wr => DqRel 1 T s3 l w13 v12 v13 wr) (fun _ v13 _ => n - (intOf v13).toNat)
  case atStart => exact H6.out
  case round =>
    obtain ⟨j, hj, rfl, rfl, hbr⟩ := hrel
    clear H6
    rw [HLN.out] at hj
    have HBQ := Lib.hid (HB22.out.trans (hbr.mono (HZ.out _ HB22.out)))
    have HTQ := Lib.hid (own_below HTT22.out hbr)
    have HOQ := Lib.hid (own_below HOO22.out hbr)
    have HBRQ := Lib.hid hbr
    clear hbr
    have hfl := HFL.out j
    have hbx := HBX.out _ HBQ.out
    have p0 := at_cell (i := 0) hbx rfl
    have p1 := at_cell (i := 1) hbx rfl
    have p2 := at_cell (i := 2) hbx rfl
    have p3 := at_cell (i := 3) hbx rfl
    have p4 := at_cell (i := 4) hbx rfl
    have p5 := at_cell (i := 5) hbx rfl
    have p6 := at_cell (i := 6) hbx rfl
    clear hbx
    by_cases hlt : j < n
    · obtain ⟨x, hx⟩ : ∃ x, l[j]? = some x := ⟨_, List.getElem?_eq_getElem (by rw [HLN.out]; exact hlt)⟩
      have hmx := List.mem_of_getElem? hx
      obtain ⟨ad, rfl, _, hcx⟩ := (HRW.out _ HBQ.out).2 (by omega)
      obtain ⟨x0, x1, x2⟩ := dps_at l j x hx
      have k0 := hcx _ _ x0
      have k1 := hcx _ _ x1
      have k2 := hcx _ _ x2
      rw [add_one] at k1
      rw [add_two] at k2
      have hxn := HN4.out x hmx
      have hxd := HIND.out x hmx
      have hxh := HNU.out.2.2.2 x hmx
      have hsn := dq_snoc (ver := 1) (T := T) (s := s3) hx
      obtain ⟨xn, xh, xo⟩ := x
      simp only at k0 k1 k2 hxn hxd hxh
      unfold rsv at k0
      obtain ⟨cs, hcs⟩ : ∃ cs, cs = s3 ++ (l.take j).flatMap (fDep 1 T) := ⟨_, rfl⟩
      have lcs : cs.length ≤ 2000 := by rw [hcs, List.length_append]; omega
      rw [← hcs] at hsn ⊢
      obtain ⟨bh, hbh⟩ : ∃ bh, bh = vb xh.toNat := ⟨_, rfl⟩
      have lbh : bh.length ≤ 10 := by rw [hbh]; exact vb_len _ (num_nat hxh).2
      have HH := Lib.hid (fun W => refput_any xh.toNat (num_nat hxh).2 W)
      rw [← hbh, ← (num_nat hxh).1] at HH
      have HBXD := Lib.hid (one_new wr (.cells #[.string (tx xn), .int .u64 xh, .bool xo] 56))
      have HBD := Lib.hid (HBQ.out.alloc (HZ.out _ HBQ.out) (.cells #[.string (tx xn), .int .u64 xh, .bool xo] 56))
      have HBRD := Lib.hid (HBRQ.out.alloc HBRQ.out.size (.cells #[.string (tx xn), .int .u64 xh, .bool xo] 56))
      have HTD := Lib.hid (World.ownsRow.alloc HTQ.out (.cells #[.string (tx xn), .int .u64 xh, .bool xo] 56))
      have d0 := at_cell (i := 0) HBXD.out rfl
      have d1 := at_cell (i := 1) HBXD.out rfl
      have d2 := at_cell (i := 2) HBXD.out rfl
      have hi0 : (0 : Int) ≤ (j : Int) := by omega
      have hi1 : (j : Int) < (n : Int) := by omega
      clear hx hmx hcx x0 x1 x2 hfl hcs
      have hnb := nmB_len (ver := 1) (tl := T) hxn (by omega)
      obtain ⟨dn, hdn⟩ : ∃ dn, dn = nmB 1 T xn := ⟨_, rfl⟩
      rw [← hdn] at hnb
      have hse : s3 ++ (l.take (j + 1)).flatMap (fDep 1 T) = (cs ++ dn) ++ bh := by rw [hsn, hdn, hbh]; unfold fDep depB; rw [if_pos (by omega)]; simp
      obtain ⟨c1, hc1⟩ : ∃ c1, c1 = cs ++ dn := ⟨_, rfl⟩
      obtain ⟨c2, hc2⟩ : ∃ c2, c2 = c1 ++ bh := ⟨_, rfl⟩
      have lc1 : c1.length ≤ 3000 := by rw [hc1, List.length_append]; omega
      have ac1 := fun W : World => add_tx (P := Try.prog) W cs dn (by omega)
      have ac2 := fun W : World => add_tx (P := Try.prog) W c1 bh (by omega)
      rw [← hc1] at ac1 hse
      rw [← hc2] at ac2 hse
      have HSE := Lib.hid hse
      have HDN := Lib.hid hdn
      have HTX := Lib.hid (fun W (hb : Below (wr.alloc (.cells #[.string (tx xn), .int .u64 xh, .bool xo] 56)).heap.size (wr.alloc (.cells #[.string (tx xn), .int .u64 xh, .bool xo] 56)) W) => doctext_any 1 (by omega) LT nT cX T xn (by omega) hxd (by omega) W (((Reads.of_own HTD.out).below hb).more hb.size))
      rw [← hdn] at HTX
      clear hse hsn hdn hc1 hc2 hbh hxd hxh
      go_wp2_with fail
      refine (HTX.out _ (Below.refl _ _)).mono ?_
      rintro e w14 ⟨rfl, hb⟩
      have hd14 := (hb.block wr.heap.size (by simp)).trans HBXD.out
      have e1 := at_cell (i := 1) hd14 rfl
      have HB14 := Lib.hid (HBRD.out.trans (hb.mono HBRD.out.size))
      clear hd14 hb d0 d1 d2
      go_wp2_with fail
      refine (HH.out _).mono ?_
      rintro e w15 ⟨rfl, hb⟩
      have HB15 := Lib.hid (HB14.out.trans (hb.mono HB14.out.size))
      clear hb
      go_wp2
      exact ⟨⟨j + 1, by rw [HLN.out]; omega, by go_num, by rw [HSE.out], HB15.out⟩, by simp [intOf]; omega⟩
    · obtain rfl : j = n := by omega
      rw [List.take_of_length_le (by rw [HLN.out]; exact Nat.le_refl _)]
      have hfl2 := HFL.out l.length
      rw [List.take_length] at hfl2
      rw [HLN.out] at hfl2
      obtain ⟨fl, hfle⟩ : ∃ fl, fl = l.flatMap (fDep 1 T) := ⟨_, rfl⟩
      rw [← hfle] at hfl2
      obtain ⟨s4, hs4⟩ : ∃ s4, s4 = s3 ++ fl := ⟨_, rfl⟩
      have ls4 : s4.length ≤ 2000 := by rw [hs4, List.length_append]; omega
      rw [← hfle, ← hs4]
      have Hs4 := Lib.hid hs4
      have HFLE := Lib.hid hfle
      clear hfl hs4 hfle hfl2
      obtain ⟨s5, hs5⟩ : ∃ s5, s5 = s4 ++ bo := ⟨_, rfl⟩
      have ls5 : s5.length ≤ 3500 := by rw [hs5, List.length_append]; omega
      have as5 := fun W : World => add_tx (P := Try.prog) W s4 bo (by omega)
      rw [← hs5] at as5
      have Hs5 := Lib.hid hs5
      clear hs5
      go_wp2_with fail
      refine (HO.out _).mono ?_
      rintro e wq ⟨rfl, hb⟩
      obtain ⟨ws5, rfl⟩ : ∃ ws5, ws5 = wq := ⟨_, rfl⟩
      have HB61 := Lib.hid (HBQ.out.trans (hb.mono (HZ.out _ HBQ.out)))
      have HTT61 := Lib.hid (own_below HTQ.out hb)
      have HOO61 := Lib.hid (own_below HOQ.out hb)
      clear hb
      clear p0 p1 p2 p3 p4 p5 p6
      have hbx := HBX.out ws5 HB61.out
      have p0 := at_cell (i := 0) hbx rfl
      have p1 := at_cell (i := 1) hbx rfl
      have p2 := at_cell (i := 2) hbx rfl
      have p3 := at_cell (i := 3) hbx rfl
      have p4 := at_cell (i := 4) hbx rfl
      have p5 := at_cell (i := 5) hbx rfl
      have p6 := at_cell (i := 6) hbx rfl
      clear hbx
      obtain ⟨nO1, hO1⟩ : ∃ nO1, nO1 = 0 + 1 := ⟨_, rfl⟩
      clear hO1
      have HO2 := Lib.hid (World.ownsRow.alloc HOO61.out (.cells #[.string (tx s5)] 9))
      have HT2 := Lib.hid (World.ownsRow.alloc HTT61.out (.cells #[.string (tx s5)] 9))
      have HR2 := Lib.hid (reads_one_row ws5 9 (.string (tx s5)))
      have HB2 := Lib.hid (HB61.out.alloc (HZ.out _ HB61.out) (.cells #[.string (tx s5)] 9))
      go_wp2_with (at_builtin; refine wpList_append_told _ rfl (.tmp 164) (.tmp 166) 22 rfl (w.heap.size + 1) 9 i0 _ 1 16 Try.underlying22 ii0 iz0 iz1 iz2 rfl (by decide) _ 0 _ rfl HO2.out (some ⟨ws5.heap.size, 0, none⟩) 1 1 (ws5.heap.size + 1) [.string (tx s5)] rfl (by simp) HR2.out (fun u hu => by obtain rfl := List.mem_singleton.1 hu; rfl) (by unfold maxLen; omega) (by omega) (HZ.out _ HB2.out) ?_; intro v7 w7 ho7 hg7 hv7; have hg7b : (ws5.alloc (.cells #[.string (tx s5)] 9)).grownBy w7 (Value.slice (some ⟨w.heap.size + 1, 0, none⟩) 0 0).ownBlock := hg7; have HO7 := Lib.hid ho7; have HB7 := Lib.hid (HB2.out.grown hg7b (HZ.out _ HB2.out) (own_block HO2.out)); have HT7 := Lib.hid (own_kept HT2.out HAP.out hg7b); clear ho7 hg7 hv7 hg7b)
      go_ret3
      refine ⟨_, _, rfl, ?_, ?_, HW0.out.trans (HB7.out.mono (by omega))⟩
      · rw [hpl.out, hfre.out, hfin.out, ← Hs1.out, ← Hs2.out, ← Hs3.out, ← HFLE.out, ← Hs4.out, ← Hs5.out]
        unfold Own
        rw [List.length_append, List.map_append, ← HNO.out]
        exact own_less HO7.out (by omega)
      · unfold Own
        rw [← HNT.out]
        exact HT7.out

end Go.Proofs.Ytfidfhajnobonaa
