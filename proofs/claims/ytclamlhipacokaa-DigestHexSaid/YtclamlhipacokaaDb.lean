/- The walks of digest's steps, of through, Of and Back, of the document's digest, and of the example. -/
import Derived.WalkKit
import Derived.Outline
import Derived.Laws.Bits64b
import Derived.Lib.Hide
import Derived.Test.YtclamlhipacokaaProg
import Derived.Test.YtclamlhipacokaaS
import Derived.Test.YtclamlhipacokaaDa
namespace Go.Proofs.Ytclamlhipacokaa
open Go.RowKit

def St.ok : St → Prop
  | .plus _ => True
  | .times _ => True
  | .mix k => k = 27 ∨ k = 30 ∨ k = 31
  | .unmix k => k = 27 ∨ k = 30 ∨ k = 31

def St.cap : St → Value
  | .plus c => qv c
  | .times c => qv c
  | .mix k => .int .i64 (k : Int)
  | .unmix k => .int .i64 (k : Int)

def St.fn : St → Nat
  | .plus _ => 23
  | .mix _ => 24
  | .times _ => 25
  | .unmix _ => 26

theorem plus1_any (x c : Q64) (b : Nat) (w : World) (h : w.cell? ⟨b, 0, none⟩ = some (qv c)) :
    Calls Try.prog 23 #[qv x, .pointer (some ⟨b, 0, none⟩)] w fun e w' => e = .returned (qv (x + c)) ∧ w = w' := by
  have k := add_nat x c
  unfold qv at *
  generalize x.toNat = p at *
  generalize c.toNat = q at *
  generalize (x + c).toNat = r at *
  go_enter Try.func23, Try.ntmps23
  go_wp2
  go_ret
  exact ⟨rfl, rfl⟩

theorem times1_any (x c : Q64) (b : Nat) (w : World) (h : w.cell? ⟨b, 0, none⟩ = some (qv c)) :
    Calls Try.prog 25 #[qv x, .pointer (some ⟨b, 0, none⟩)] w fun e w' => e = .returned (qv (x * c)) ∧ w = w' := by
  have k := mul_nat x c
  unfold qv at *
  generalize x.toNat = p at *
  generalize c.toNat = q at *
  generalize (x * c).toNat = r at *
  go_enter Try.func25, Try.ntmps25
  go_wp2
  go_ret
  exact ⟨rfl, rfl⟩

theorem mixed1_any (x : Q64) (k : Nat) (hk : k = 27 ∨ k = 30 ∨ k = 31) (b : Nat) (w : World) (h : w.cell? ⟨b, 0, none⟩ = some (.int .i64 (k : Int))) :
    Calls Try.prog 24 #[qv x, .pointer (some ⟨b, 0, none⟩)] w fun e w' => e = .returned (qv (mix k x)) ∧ w = w' := by
  have h1 := shr_nat x k
  have h2 := xor_nat x (x >>> k)
  unfold qv mix at *
  generalize x.toNat = p at *
  generalize (x >>> k).toNat = q at *
  generalize (x ^^^ x >>> k).toNat = r at *
  rcases hk with rfl | rfl | rfl
  all_goals
    simp only [Int.cast_ofNat_Int] at h
    simp only [Int.reducePow] at h1
    go_enter Try.func24, Try.ntmps24
    go_wp2
    go_ret
    exact ⟨rfl, rfl⟩

/-- What unmixed's loop has come to. -/
def ur (k : Nat) (h : Q64) : Nat → Q64
  | 0 => h
  | m + 1 => ur k h m ^^^ (h >>> (k * (m + 1)))

theorem shr_stays {h : Q64} {a b : Nat} (e : h >>> a = 0#64) (hab : a ≤ b) : h >>> b = 0#64 := by
  rw [show b = a + (b - a) by omega, BitVec.shiftRight_add, e, BitVec.zero_ushiftRight]

theorem ur_end (k : Nat) (h : Q64) (m : Nat) (hm : m ≤ 2) (e : h >>> (k * (m + 1)) = 0#64) : ur k h m = unmix k h := by
  have e1 : k * (0 + 1) = k := by omega
  have e2 : k * (1 + 1) = k + k := by omega
  obtain rfl | rfl | rfl : m = 0 ∨ m = 1 ∨ m = 2 := by omega
  · rw [e1] at e
    simp only [ur, unmix, e, shr_stays e (show k ≤ k + k by omega), BitVec.xor_zero]
  · rw [e2] at e
    simp only [ur, unmix, e1, e, BitVec.xor_zero]
  · simp only [ur, unmix, e1, e2]

theorem ur_on (k : Nat) (hk : 22 ≤ k) (h : Q64) (m : Nat) (hm : m ≤ 2) (e : h >>> (k * (m + 1)) ≠ 0#64) : m + 1 ≤ 2 := by
  rcases Nat.lt_or_ge m 2 with h1 | h1
  · omega
  · exact absurd (BitVec.ushiftRight_eq_zero (by have := Nat.mul_le_mul hk (show 3 ≤ m + 1 by omega); omega)) e

/-- At the head of a round of unmixed. -/
def URel (k : Nat) (h : Q64) (w : World) (v idx : Value) (wr : World) : Prop := ∃ m, m ≤ 2 ∧ v = qv (ur k h m) ∧ idx = qv (h >>> (k * (m + 1))) ∧ w = wr

theorem u_split (k : Nat) (hk : 22 ≤ k) (x : Q64) (m : Nat) (hm : m ≤ 2) (w : World) :
    ∃ a c : Nat, qv (ur k x m) = .int .u64 (a : Int) ∧ qv (x >>> (k * (m + 1))) = .int .u64 (c : Int) ∧
      ((c = 0 ∧ qv (unmix k x) = .int .u64 (a : Int)) ∨
        (0 < c ∧ ∃ z d : Nat, bits .xor .u64 (a : Int) (c : Int) = (z : Int) ∧ (c : Int) / 2 ^ k = (d : Int) ∧ d < c ∧ URel k x w (.int .u64 (z : Int)) (.int .u64 (d : Int)) w)) := by
  refine ⟨_, _, rfl, rfl, ?_⟩
  by_cases hz : x >>> (k * (m + 1)) = 0#64
  · exact .inl ⟨by rw [hz]; rfl, by rw [← ur_end k x m hm hz]; rfl⟩
  · have hc : (x >>> (k * (m + 1))).toNat ≠ 0 := fun e => hz (BitVec.eq_of_toNat_eq e)
    have hs := shr_nat (x >>> (k * (m + 1))) k
    rw [← BitVec.shiftRight_add, show k * (m + 1) + k = k * (m + 1 + 1) by rw [Nat.mul_add k (m + 1) 1, Nat.mul_one]] at hs
    have hlt : (x >>> (k * (m + 1 + 1))).toNat < (x >>> (k * (m + 1))).toNat := by
      have h2 : (2 : Nat) ≤ 2 ^ k := by
        have := Nat.pow_le_pow_right (show 0 < 2 by omega) (show 1 ≤ k by omega)
        simpa using this
      have h3 : (x >>> (k * (m + 1))).toNat / 2 ^ k < (x >>> (k * (m + 1))).toNat := Nat.div_lt_self (by omega) h2
      have h4 : (((x >>> (k * (m + 1))).toNat / 2 ^ k : Nat) : Int) = ((x >>> (k * (m + 1 + 1))).toNat : Int) := by rw [← hs]; simp
      omega
    exact .inr ⟨by omega, _, _, xor_nat _ _, hs, hlt, m + 1, ur_on k hk x m hm hz, rfl, rfl, rfl⟩

set_option maxRecDepth 100000 in
theorem unmixed1_any (x : Q64) (k : Nat) (hk : k = 27 ∨ k = 30 ∨ k = 31) (b : Nat) (w : World) (h : w.cell? ⟨b, 0, none⟩ = some (.int .i64 (k : Int))) :
    Calls Try.prog 26 #[qv x, .pointer (some ⟨b, 0, none⟩)] w fun e w' => e = .returned (qv (unmix k x)) ∧ w = w' := by
  have hk22 : 22 ≤ k := by omega
  obtain ⟨p, hp⟩ : ∃ p : Nat, p = x.toNat := ⟨_, rfl⟩
  obtain ⟨q, hq⟩ : ∃ q : Nat, q = (x >>> k).toNat := ⟨_, rfl⟩
  have h1 : (p : Int) / 2 ^ k = (q : Int) := by rw [hp, hq]; exact shr_nat x k
  have hp' : qv x = .int .u64 (p : Int) := by rw [qv, hp]
  obtain ⟨r, hr⟩ : ∃ r, qv (unmix k x) = r := ⟨_, rfl⟩
  have H0 : URel k x w (.int .u64 (p : Int)) (.int .u64 (q : Int)) w := ⟨0, by omega, hp'.symm, by rw [hq, show k * (0 + 1) = k by omega]; rfl, rfl⟩
  have HR := Lib.hid hr
  have HK := Lib.hid hk22
  rw [hp', hr]
  clear hp hp' hq hr hk22
  rcases hk with rfl | rfl | rfl
  all_goals
    simp only [Int.cast_ofNat_Int] at h
    simp only [Int.reducePow] at h1
    go_enter Try.func26, Try.ntmps26
    go_wp2
    clear h1
    go_loopw [4, 5] (fun v idx wr => URel _ x w v idx wr) (fun _ idx _ => (intOf idx).toNat)
    case atStart => exact H0
    case round =>
      obtain ⟨m, hm, rfl, rfl, rfl⟩ := hrel
      obtain ⟨a, c, e1, e2, ⟨hc, he⟩ | ⟨hc, z, d, hx, hd, hlt, HU⟩⟩ := u_split _ HK.out x m hm w
      · rw [e1, e2]
        have hr := HR.out.symm.trans he
        subst hc hr
        clear he e1 e2 H0 HR HK
        go_wp2
        go_ret
        exact ⟨rfl, rfl⟩
      · rw [e1, e2]
        clear e1 e2 H0
        simp only [Int.reducePow] at hd
        have hcd : decide ((c : Int) = 0) = false := decide_eq_false (by omega)
        go_wp2
        exact ⟨HU, by simp [intOf]; omega⟩

end Go.Proofs.Ytclamlhipacokaa
