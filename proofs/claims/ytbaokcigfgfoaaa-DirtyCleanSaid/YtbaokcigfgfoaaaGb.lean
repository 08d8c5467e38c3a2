/- A map of records beside the fold that it holds. -/
import Derived.Maps.OwnSet
import Derived.Test.YtbaokcigfgfoaaaGa
import Derived.Test.YtbaokcigfgfoaaaTa
namespace Go.Proofs.Ytbaokcigfgfoaaa
open Go.RowKit

/-- An element as itself. -/
def selfElem (v : Value) : Option (DataW Value × List MemPlace) := some (.held v, [])
def Rw.val (x : Rw) : Value := rcv x.r x.A x.n x.c
def Rw.t (x : Rw) : List UInt8 := x.r.target
def Rw.k (x : Rw) : Int := x.r.kind

theorem self_inv {v : Value} {z : DataW Value × List MemPlace} (h : selfElem v = some z) : z.1 = .held v := by
  unfold selfElem at h
  obtain rfl := Option.some.inj h
  rfl

/-- A map holds a state. -/
def MapOf (D : DataW Value) (S : List Rw) : Prop := Up Rw.t S ∧ ∀ u z, D.atKey (.string u) z = match look Rw.t S u with | some x => .held x.val | none => z

theorem MapOf.start : MapOf (.map []) [] := ⟨List.Pairwise.nil, fun _ _ => rfl⟩
theorem MapOf.has {D : DataW Value} {S : List Rw} (h : MapOf D S) (u : List UInt8) : Maps.has D (.string u) = (look Rw.t S u).isSome := by
  have h1 := h.2 u
  cases e : look Rw.t S u with
  | none => simp only [e] at h1; exact Maps.has_false_of_atKey h1
  | some x => simp only [e] at h1; exact Maps.has_true_of_atKey h1
theorem MapOf.put {D : DataW Value} {S : List Rw} (h : MapOf D S) (hD : Maps.IsMap D) (x : Rw) : MapOf (D.put (.string x.t) (.held x.val)) (rput Rw.t x false S) := by
  refine ⟨rput_up h.1 (fun _ => trivial), fun u z => ?_⟩
  rw [look_put h.1]
  by_cases e : u = x.t
  · subst e
    rw [if_pos rfl]
    exact Maps.atKey_put_same hD (show WideAt.IsKeyLit (.string x.t) from trivial) _ _
  · rw [if_neg e, Maps.atKey_put_other (fun e2 => e (by injection e2))]
    exact h.2 u z
theorem MapOf.del {D : DataW Value} {S : List Rw} (h : MapOf D S) (x : Rw) : MapOf (D.del (.string x.t)) (rput Rw.t x true S) := by
  refine ⟨rput_up h.1 (fun _ => trivial), fun u z => ?_⟩
  rw [look_del h.1]
  by_cases e : u = x.t
  · subst e
    rw [if_pos rfl]
    exact Maps.atKey_del_same _
  · rw [if_neg e, Maps.atKey_del_other (fun e2 => e (by injection e2))]
    exact h.2 u z
/-- What was looked up. -/
theorem MapOf.at {D : DataW Value} {S : List Rw} (h : MapOf D S) {i : Nat} {x : Rw} (hx : S[i]? = some x) (z : DataW Value) : D.atKey (.string x.t) z = .held x.val := by
  rw [h.2, up_at h.1 hx]
/-- What was collected, sorted. -/
theorem MapOf.sorted {D : DataW Value} {S : List Rw} (h : MapOf D S) {left : Lit → Bool} {ss : List (List UInt8)} (hc : Collected D left ss) (hl : ∀ kl, left kl = false) : ss.mergeSort (fun x y => decide (x ≤ y)) = S.map Rw.t :=
  sort_up h.1 hc.1 fun u => by rw [hc.2 u, hl, ← h.has]; simp

theorem below_drewN2 {B : Nat} {w w' : World} (h : Below B w w') (q : Nat) : Below B w (w'.drewN q) := ⟨h.os, h.tape, h.output, h.size, h.block⟩

end Go.Proofs.Ytbaokcigfgfoaaa
