/- The walks of digest's steps, but for those back. -/
import Derived.WalkKit
import Derived.Outline
import Derived.Laws.Bits64b
import Derived.Lib.Hide
import Derived.Test.YtbaokcigfgfoaaaProg
import Derived.Test.YtbaokcigfgfoaaaS
import Derived.Test.YtbaokcigfgfoaaaDa
namespace Go.Proofs.Ytbaokcigfgfoaaa
open Go.RowKit

def St.ok : St → Prop
  | .plus _ => True
  | .times _ => True
  | .mix k => k = 27 ∨ k = 30 ∨ k = 31
  | .unmix _ => False

def St.cap : St → Value
  | .plus c => qv c
  | .times c => qv c
  | .mix k => .int .i64 (k : Int)
  | .unmix k => .int .i64 (k : Int)

def St.fn : St → Nat
  | .plus _ => 37
  | .mix _ => 38
  | .times _ => 39
  | .unmix _ => 0

theorem plus1_any (x c : Q64) (b : Nat) (w : World) (h : w.cell? ⟨b, 0, none⟩ = some (qv c)) :
    Calls Try.prog 37 #[qv x, .pointer (some ⟨b, 0, none⟩)] w fun e w' => e = .returned (qv (x + c)) ∧ w = w' := by
  have k := add_nat x c
  unfold qv at *
  generalize x.toNat = p at *
  generalize c.toNat = q at *
  generalize (x + c).toNat = r at *
  go_enter Try.func37, Try.ntmps37
  go_wp2
  go_ret
  exact ⟨rfl, rfl⟩

theorem times1_any (x c : Q64) (b : Nat) (w : World) (h : w.cell? ⟨b, 0, none⟩ = some (qv c)) :
    Calls Try.prog 39 #[qv x, .pointer (some ⟨b, 0, none⟩)] w fun e w' => e = .returned (qv (x * c)) ∧ w = w' := by
  have k := mul_nat x c
  unfold qv at *
  generalize x.toNat = p at *
  generalize c.toNat = q at *
  generalize (x * c).toNat = r at *
  go_enter Try.func39, Try.ntmps39
  go_wp2
  go_ret
  exact ⟨rfl, rfl⟩

theorem mixed1_any (x : Q64) (k : Nat) (hk : k = 27 ∨ k = 30 ∨ k = 31) (b : Nat) (w : World) (h : w.cell? ⟨b, 0, none⟩ = some (.int .i64 (k : Int))) :
    Calls Try.prog 38 #[qv x, .pointer (some ⟨b, 0, none⟩)] w fun e w' => e = .returned (qv (mix k x)) ∧ w = w' := by
  have h1 := shr_nat x k
  have h2 := xor_nat x (x >>> k)
  unfold qv mix at *
  generalize x.toNat = p at *
  generalize (x >>> k).toNat = q at *
  generalize (x ^^^ x >>> k).toNat = r at *
  rcases hk with rfl | rfl | rfl
  all_goals
    simp only [Int.cast_ofNat_Int] at h
    simp only [Int.reducePow] at h1
    go_enter Try.func38, Try.ntmps38
    go_wp2
    go_ret
    exact ⟨rfl, rfl⟩

end Go.Proofs.Ytbaokcigfgfoaaa
