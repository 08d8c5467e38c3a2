/- The walks of EscapePuts and EscapeGets. -/
import Derived.Test.YtjjhbcijonjlhaaEi
namespace Go.Proofs.Ytjjhbcijonjlhaa
open Go.RowKit

theorem firstIdx_eput (l : List UInt8) (c : UInt8) (h : c.toNat < 33) : firstIdx (tx (eput l)) c = -1 :=
  firstIdx_none _ _ fun b hb hbc => by
    have := eput_mem (s := l) (x := b) (by simpa [tx] using hb)
    rw [hbc] at this
    omega

set_option maxRecDepth 100000 in
set_option maxHeartbeats 1000000 in
theorem eputs_any (l : List UInt8) (w : World) :
    Calls Try.prog 3 #[.string (tx l)] w fun e w' => e = .returned (.bool true) ∧ Below w.heap.size w w' := by
  have hfx := Lib.hid (fun W => efixed_any W)
  have hsz : (tx l).size = l.length := tx_size l
  by_cases hlen : 300 < l.length
  · obtain ⟨n, hn⟩ : ∃ n, n = l.length := ⟨_, rfl⟩
    rw [← hn] at hsz hlen
    generalize tx l = s at *
    clear hn
    go_enter Try.func3, Try.ntmps3
    go_wp2_with (go_at_call 5; refine (hfx.out _).mono ?_; rintro e w3 ⟨rfl, hb3⟩)
    go_ret
    exact ⟨rfl, hb3⟩
  · have hql := eput_len l
    have h1 := Lib.hid (fun W => eput_any l (by omega) W)
    have h2 := Lib.hid (fun W => eget_any (eput l) (by omega) W)
    have h3 := Lib.hid (fun W => rput_any l (by omega) W)
    have h4 := Lib.hid (fun W => ixb_any (tx (eput l)) 32 W)
    have h5 := Lib.hid (fun W => ixb_any (tx (eput l)) 10 W)
    rw [firstIdx_eput _ _ (by decide)] at h4 h5
    rw [eget_eput] at h2
    have hne : (tx (eput l)).toList.isEmpty = false := by rw [emp_bytes, decide_eq_false (eput_ne l)]
    have hne2 : (!(tx (eput l)).toList.isEmpty) = true := by rw [hne]; rfl
    obtain ⟨n, hn⟩ : ∃ n, n = l.length := ⟨_, rfl⟩
    rw [← hn] at hsz hlen
    generalize tx (eput l) = q at *
    generalize tx l = s at *
    clear hn hql
    go_enter Try.func3, Try.ntmps3
    go_wp2_with fail
    refine (h1.out _).mono ?_; rintro e w1 ⟨rfl, b1⟩
    go_wp2_with fail
    refine (h2.out _).mono ?_; rintro e w2 ⟨rfl, b2⟩
    go_wp2_with fail
    refine (hfx.out _).mono ?_; rintro e w3 ⟨rfl, b3⟩
    go_wp2_with fail
    refine (h3.out _).mono ?_; rintro e w4 ⟨rfl, b4⟩
    go_wp2_with fail
    refine (h4.out _).mono ?_; rintro e w5 ⟨rfl, rfl⟩
    go_wp2_with fail
    refine (h5.out _).mono ?_; rintro e w6 ⟨rfl, rfl⟩
    have hb : Below w.heap.size w w4 :=
      have c2 := b1.trans (b2.mono b1.size)
      have c3 := c2.trans (b3.mono c2.size)
      c3.trans (b4.mono c3.size)
    clear b1 b2 b3 b4
    go_wp2
    go_ret
    exact ⟨rfl, hb⟩

set_option maxRecDepth 100000 in
set_option maxHeartbeats 1000000 in
theorem egets_any (l : List UInt8) (w : World) :
    Calls Try.prog 4 #[.string (tx l)] w fun e w' => e = .returned (.bool true) ∧ Below w.heap.size w w' := by
  have hfx := Lib.hid (fun W => efixed_any W)
  have hsz : (tx l).size = l.length := tx_size l
  by_cases hlen : 300 < l.length
  · obtain ⟨n, hn⟩ : ∃ n, n = l.length := ⟨_, rfl⟩
    rw [← hn] at hsz hlen
    generalize tx l = s at *
    clear hn
    go_enter Try.func4, Try.ntmps4
    go_wp2_with (go_at_call 5; refine (hfx.out _).mono ?_; rintro e w3 ⟨rfl, hb3⟩)
    go_ret
    exact ⟨rfl, hb3⟩
  · have h1 := Lib.hid (fun W => eget_any l (by omega) W)
    have h2 := Lib.hid (fun W => rget_any l (by omega) W)
    have hp := fun W => eput_any (eget l).1 (by
      unfold eget
      split
      · have := eread_len l; show (eread l).length ≤ 1000; omega
      · simp) W
    have hb := @eget_back l (eget l).1
    obtain ⟨r, q⟩ : Σ' r, r = eget l := ⟨_, rfl⟩
    rw [← q] at h1 h2 hp hb
    obtain ⟨t, ok⟩ := r
    simp only at h1 h2 hp hb
    obtain ⟨n, hn⟩ : ∃ n, n = l.length := ⟨_, rfl⟩
    rw [← hn] at hsz hlen
    cases ok with
    | true =>
      rw [hb rfl] at hp
      have HP := Lib.hid hp
      generalize tx l = s at *
      generalize tx t = u at *
      clear hn q hb hp
      go_enter Try.func4, Try.ntmps4
      go_wp2_with fail
      refine (h1.out _).mono ?_; rintro e w1 ⟨rfl, b1⟩
      go_wp2_with fail
      refine (h2.out _).mono ?_; rintro e w2 ⟨rfl, b2⟩
      go_wp2_with fail
      refine (hfx.out _).mono ?_; rintro e w3 ⟨rfl, b3⟩
      go_wp2_with fail
      refine (HP.out _).mono ?_; rintro e w4 ⟨rfl, b4⟩
      have hb : Below w.heap.size w w4 :=
        have c2 := b1.trans (b2.mono b1.size)
        have c3 := c2.trans (b3.mono c2.size)
        c3.trans (b4.mono c3.size)
      clear b1 b2 b3 b4
      go_wp2
      go_ret
      exact ⟨rfl, hb⟩
    | false =>
      generalize tx l = s at *
      generalize tx t = u at *
      clear hn q hb hp
      go_enter Try.func4, Try.ntmps4
      go_wp2_with fail
      refine (h1.out _).mono ?_; rintro e w1 ⟨rfl, b1⟩
      go_wp2_with fail
      refine (h2.out _).mono ?_; rintro e w2 ⟨rfl, b2⟩
      go_wp2_with fail
      refine (hfx.out _).mono ?_; rintro e w3 ⟨rfl, b3⟩
      have hb : Below w.heap.size w w3 :=
        have c2 := b1.trans (b2.mono b1.size)
        c2.trans (b3.mono c2.size)
      clear b1 b2 b3
      go_wp2
      go_ret
      exact ⟨rfl, hb⟩

end Go.Proofs.Ytjjhbcijonjlhaa
