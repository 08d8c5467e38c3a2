/- The mathematics of digests: a digest's steps, the steps back, and that each undoes the other. -/
import Derived.Test.YtgioknppnfencaaDoorM
import Derived.Laws.BitsAllLaws
namespace Go.Proofs.YtgioknppnfencaaDoor

abbrev Q64 := BitVec 64

def mix (k : Nat) (x : Q64) : Q64 := x ^^^ (x >>> k)
def unmix (k : Nat) (h : Q64) : Q64 := h ^^^ (h >>> k) ^^^ (h >>> (k + k))

def k1 : Q64 := 11400714819323198485#64
def k1b : Q64 := 7046029254386353131#64
def k2 : Q64 := 13787848793156543929#64
def k2b : Q64 := 10871156337175269513#64
def k3 : Q64 := 10723151780598845931#64
def k3b : Q64 := 3573116690164977347#64

/-- The digest of a number. -/
def dg (n : Q64) : Q64 := mix 31 (mix 27 (mix 30 (n + k1) * k2) * k3)
def dgb (h : Q64) : Q64 := unmix 30 (unmix 27 (unmix 31 h * k3b) * k2b) + k1b

theorem gone (k : Nat) (hk : 22 ≤ k) (x : Q64) : x >>> (k + k + k) = 0#64 := BitVec.ushiftRight_eq_zero (by omega)

theorem unmix_mix (k : Nat) (hk : 22 ≤ k) (x : Q64) : unmix k (mix k x) = x := by
  unfold unmix mix
  rw [BitVec.ushiftRight_xor_distrib, BitVec.ushiftRight_xor_distrib, ← BitVec.shiftRight_add, ← BitVec.shiftRight_add, show k + (k + k) = k + k + k by omega, gone k hk, BitVec.xor_zero]
  generalize x >>> k = a
  generalize x >>> (k + k) = b
  rw [BitVec.xor_assoc (x ^^^ a), BitVec.xor_assoc a, BitVec.xor_self, BitVec.xor_zero, BitVec.xor_assoc x, BitVec.xor_self, BitVec.xor_zero]

theorem mix_unmix (k : Nat) (hk : 22 ≤ k) (x : Q64) : mix k (unmix k x) = x := by
  unfold unmix mix
  rw [BitVec.ushiftRight_xor_distrib, BitVec.ushiftRight_xor_distrib, ← BitVec.shiftRight_add, ← BitVec.shiftRight_add, show k + k + k = k + k + k from rfl, gone k hk, BitVec.xor_zero]
  generalize x >>> k = a
  generalize x >>> (k + k) = b
  rw [BitVec.xor_assoc x a b, BitVec.xor_assoc x, BitVec.xor_self, BitVec.xor_zero]

theorem back_of (n : Q64) : dgb (dg n) = n := by
  unfold dg dgb
  rw [unmix_mix 31 (by omega), BitVec.mul_assoc, show k3 * k3b = 1#64 by decide, BitVec.mul_one, unmix_mix 27 (by omega), BitVec.mul_assoc, show k2 * k2b = 1#64 by decide, BitVec.mul_one, unmix_mix 30 (by omega),
    BitVec.add_assoc, show k1 + k1b = 0#64 by decide, BitVec.add_zero]

theorem of_back (h : Q64) : dg (dgb h) = h := by
  unfold dg dgb
  rw [BitVec.add_assoc, show k1b + k1 = 0#64 by decide, BitVec.add_zero, mix_unmix 30 (by omega), BitVec.mul_assoc, show k2b * k2 = 1#64 by decide, BitVec.mul_one, mix_unmix 27 (by omega), BitVec.mul_assoc, show k3b * k3 = 1#64 by decide, BitVec.mul_one, mix_unmix 31 (by omega)]

theorem dg_inj {a b : Q64} (h : dg a = dg b) : a = b := by rw [← back_of a, h, back_of]

/-- The fold of a digest and a row. -/
def foq (h : Q64) : List Q64 → Q64
  | [] => h
  | x :: l => foq (dg (h ^^^ x)) l

theorem foq_append (h : Q64) : ∀ (a b : List Q64), foq h (a ++ b) = foq (foq h a) b := by
  intro a
  induction a generalizing h with
  | nil => intro b; rfl
  | cons x a ih => intro b; exact ih _ b

theorem foq_one (h : Q64) (l : List Q64) (i : Nat) (x : Q64) (hx : l[i]? = some x) : foq h (l.take (i + 1)) = dg (foq h (l.take i) ^^^ x) := by
  rw [List.take_add_one, hx, foq_append]
  rfl

theorem foq_inj {h a b : Q64} (e : foq h [a] = foq h [b]) : a = b := by
  have := dg_inj (show dg (h ^^^ a) = dg (h ^^^ b) from e)
  have e2 := congrArg (h ^^^ ·) this
  simpa [← BitVec.xor_assoc] using e2

/-- A number of 64 bits as a value of Go. -/
def qv (x : Q64) : Value := .int .u64 (x.toNat : Int)

theorem qv_inj {a b : Q64} (h : qv a = qv b) : a = b := by
  unfold qv at h
  injection h with _ h
  exact BitVec.eq_of_toNat_eq (by omega)

/-- A step of a digest, or back. -/
inductive St
  | plus (c : Q64) | times (c : Q64) | mix (k : Nat) | unmix (k : Nat)

def St.run : St → Q64 → Q64
  | .plus c, x => x + c
  | .times c, x => x * c
  | .mix k, x => Go.Proofs.YtgioknppnfencaaDoor.mix k x
  | .unmix k, x => Go.Proofs.YtgioknppnfencaaDoor.unmix k x

def runs (x : Q64) (l : List St) : Q64 := l.foldl (fun h s => s.run h) x

theorem runs_of (n : Q64) : runs n [.plus k1, .mix 30, .times k2, .mix 27, .times k3, .mix 31] = dg n := rfl
theorem runs_back (h : Q64) : runs h [.unmix 31, .times k3b, .unmix 27, .times k2b, .unmix 30, .plus k1b] = dgb h := rfl
theorem runs_one (x : Q64) (l : List St) (i : Nat) (s : St) (hs : l[i]? = some s) : runs x (l.take (i + 1)) = s.run (runs x (l.take i)) := by
  rw [List.take_add_one, hs]
  simp [runs]

/-! What the walk meets, in plain numbers. -/

theorem add_nat (a c : Q64) : IntKind.u64.wrap ((a.toNat : Int) + (c.toNat : Int)) = ((a + c).toNat : Int) := by
  rw [IntKind.wrap_u64, BitVec.toNat_add]
  omega
theorem mul_nat (a c : Q64) : IntKind.u64.wrap ((a.toNat : Int) * (c.toNat : Int)) = ((a * c).toNat : Int) := by
  rw [IntKind.wrap_u64, BitVec.toNat_mul]
  simp
theorem xor_nat (a c : Q64) : bits .xor .u64 (a.toNat : Int) (c.toNat : Int) = ((a ^^^ c).toNat : Int) := by
  rw [u64_xor_nat _ _ a.isLt c.isLt, BitVec.toNat_xor]
theorem shr_nat (a : Q64) (k : Nat) : (a.toNat : Int) / 2 ^ k = ((a >>> k).toNat : Int) := by
  rw [BitVec.toNat_ushiftRight, Nat.shiftRight_eq_div_pow]
  simp

end Go.Proofs.YtgioknppnfencaaDoor
