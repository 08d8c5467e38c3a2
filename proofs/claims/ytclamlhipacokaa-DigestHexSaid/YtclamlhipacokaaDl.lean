/- The walk of DigestHex. -/
import Derived.Test.YtclamlhipacokaaDk
namespace Go.Proofs.Ytclamlhipacokaa
open Go.RowKit

set_option maxRecDepth 100000 in
set_option maxHeartbeats 400000 in
theorem dhex_long (v : Value) (s : ByteArray) (h : 100 < s.size) (w : World) :
    Calls Try.prog 6 #[v, .string s] w fun e w' => e = .returned (.bool true) ∧ Below w.heap.size w w' := by
  go_enter Try.func6, Try.ntmps6
  go_wp2_with fail
  refine (fixed_any _).mono ?_; rintro e w3 ⟨rfl, hb3⟩
  go_wp2
  go_ret
  exact ⟨rfl, hb3⟩

set_option maxRecDepth 100000 in
set_option maxHeartbeats 800000 in
theorem dhex_short (h : Q64) (t : List UInt8) (ht : t.length ≤ 100) (w : World) :
    Calls Try.prog 6 #[qv h, .string (tx t)] w fun e w' => e = .returned (.bool true) ∧ Below w.heap.size w w' := by
  have h1 := fun W => read_any t (by omega) W
  have h2 := fun W => refread_any t (by omega) W
  have h3 := fun W => hex_any h W
  have h4 := fun W => refhex_any h W
  have h5 := fun W => read_any (hexl h.toNat 16) (by rw [hexl_len]; omega) W
  rw [rans_hexl] at h5
  have hsz : (tx t).size ≤ 100 := by rw [tx_size]; exact ht
  unfold qv at *
  unfold rav at *
  generalize tx (hexl h.toNat 16) = d at *
  obtain ⟨⟨n, ok⟩, hr⟩ : ∃ r, r = rans t := ⟨_, rfl⟩
  rw [← hr] at h1 h2
  have h6 : ok = true → ∀ W, Calls Try.prog 15 #[.int .u64 (n : Int)] W fun e w' => e = .returned (.string (tx t)) ∧ Below W.heap.size W w' := fun hok W => by
    subst hok
    obtain ⟨g1, g2⟩ := rans_back hr.symm
    have g := hex_any (BitVec.ofNat 64 n) W
    have e : (BitVec.ofNat 64 n).toNat = n := by rw [BitVec.toNat_ofNat]; exact Nat.mod_eq_of_lt g2
    unfold qv at g
    rw [e, g1] at g
    exact g
  generalize tx t = s at *
  generalize (h.toNat : Int) = p at *
  have H1 := Lib.hid h1
  have H2 := Lib.hid h2
  have H3 := Lib.hid h3
  have H4 := Lib.hid h4
  have H5 := Lib.hid h5
  clear h1 h2 h3 h4 h5 hr ht
  cases ok with
  | false =>
    clear h6
    go_enter Try.func6, Try.ntmps6
    go_wp2_with fail
    refine (H1.out _).mono ?_; rintro e w1 ⟨rfl, rfl⟩
    go_wp2_with fail
    refine (H2.out _).mono ?_; rintro e w1 ⟨rfl, rfl⟩
    go_wp2_with fail
    refine (H3.out _).mono ?_; rintro e w1 ⟨rfl, b1⟩
    go_wp2_with fail
    refine (H5.out _).mono ?_; rintro e w2 ⟨rfl, rfl⟩
    go_wp2_with fail
    refine (fixed_any _).mono ?_; rintro e w2 ⟨rfl, b2⟩
    go_wp2_with fail
    refine (H3.out _).mono ?_; rintro e w3 ⟨rfl, b3⟩
    go_wp2_with fail
    refine (H4.out _).mono ?_; rintro e w4 ⟨rfl, rfl⟩
    have hb : Below w.heap.size w w3 :=
      have c2 := b1.trans (b2.mono b1.size)
      c2.trans (b3.mono c2.size)
    clear b1 b2 b3
    go_wp2
    go_ret
    exact ⟨rfl, hb⟩
  | true =>
    have H6 := Lib.hid (h6 rfl)
    clear h6
    go_enter Try.func6, Try.ntmps6
    go_wp2_with fail
    refine (H1.out _).mono ?_; rintro e w1 ⟨rfl, rfl⟩
    go_wp2_with fail
    refine (H2.out _).mono ?_; rintro e w1 ⟨rfl, rfl⟩
    go_wp2_with fail
    refine (H3.out _).mono ?_; rintro e w1 ⟨rfl, b1⟩
    go_wp2_with fail
    refine (H5.out _).mono ?_; rintro e w2 ⟨rfl, rfl⟩
    go_wp2_with fail
    refine (fixed_any _).mono ?_; rintro e w2 ⟨rfl, b2⟩
    go_wp2_with fail
    refine (H3.out _).mono ?_; rintro e w3 ⟨rfl, b3⟩
    go_wp2_with fail
    refine (H4.out _).mono ?_; rintro e w4 ⟨rfl, rfl⟩
    go_wp2_with fail
    refine (H6.out _).mono ?_; rintro e w4 ⟨rfl, b4⟩
    have hb : Below w.heap.size w w4 :=
      have c2 := b1.trans (b2.mono b1.size)
      have c3 := c2.trans (b3.mono c2.size)
      c3.trans (b4.mono c3.size)
    clear b1 b2 b3 b4
    go_wp2
    go_ret
    exact ⟨rfl, hb⟩

theorem dhex_any (h : Q64) (t : List UInt8) (w : World) :
    Calls Try.prog 6 #[qv h, .string (tx t)] w fun e w' => e = .returned (.bool true) ∧ Below w.heap.size w w' := by
  by_cases ht : t.length ≤ 100
  · exact dhex_short h t ht w
  · exact dhex_long _ _ (by rw [tx_size]; omega) w

end Go.Proofs.Ytclamlhipacokaa
