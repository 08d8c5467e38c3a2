/- The walk of DigestApart. -/
import Derived.Test.YtclamlhipacokaaDe
namespace Go.Proofs.Ytclamlhipacokaa
open Go.RowKit

/-- The fold of a row of one number that was just laid. -/
theorem fold_one (x y : Q64) (t : TypeId) (W : World) :
    Calls Try.prog 11 #[qv x, .slice (some ⟨W.heap.size, 0, none⟩) 1 1] (W.alloc (.cells #[qv y] t)) fun e w' => e = .returned (qv (fo (dg x) [y])) ∧ Below W.heap.size W w' := by
  refine (fold_any (some ⟨W.heap.size, 0, none⟩) 1 1 x [y] (by omega) _ ⟨rfl, fun _ => ⟨_, rfl, by simp, fun j u hu => ?_⟩⟩).mono fun e w' h => ⟨h.1, ?_⟩
  · cases j with
    | zero =>
      have hu' : qv y = u := by simpa using hu
      subst hu'
      simp only [Addr.add, if_true]
      exact cell_new _ _ _
    | succ j => simp at hu
  · have h1 : Below W.heap.size W (W.alloc (.cells #[qv y] t)) := (Below.refl _ W).alloc (by simp) _
    exact h1.trans (h.2.mono h1.size)

set_option maxRecDepth 100000 in
set_option maxHeartbeats 800000 in
theorem apart_any (a b h : Q64) (w : World) : Calls Try.prog 4 #[qv a, qv b, qv h] w fun e w' => e = .returned (.bool true) ∧ Below w.heap.size w w' := by
  have h1 := fun W => of_any a W
  have h2 := fun W => of_any b W
  have h3 := fun W => fold_one h a 22 W
  have h4 := fun W => fold_one h b 22 W
  have e1 : ((dg a).toNat : Int) = ((dg b).toNat : Int) → a = b := fun e => dg_inj (BitVec.eq_of_toNat_eq (by omega))
  have e2 : ((fo (dg h) [a]).toNat : Int) = ((fo (dg h) [b]).toNat : Int) → a = b := fun e => fo_inj (h := dg h) (BitVec.eq_of_toNat_eq (by omega))
  have e3 : (a.toNat : Int) = (b.toNat : Int) → a = b := fun e => BitVec.eq_of_toNat_eq (by omega)
  by_cases hab : a = b
  · subst hab
    clear e1 e2 e3 h2 h4
    unfold qv at *
    generalize (a.toNat : Int) = p at *
    generalize ((dg a).toNat : Int) = q at *
    generalize ((fo (dg h) [a]).toNat : Int) = r at *
    generalize (h.toNat : Int) = y at *
    have H1 := Lib.hid h1
    have H3 := Lib.hid h3
    clear h1 h3
    go_enter Try.func4, Try.ntmps4
    go_wp2_with fail
    refine (fixed_any _).mono ?_; rintro e w1 ⟨rfl, b1⟩
    go_wp2_with fail
    refine (H1.out _).mono ?_; rintro e w2 ⟨rfl, b2⟩
    go_wp2_with fail
    refine (H1.out _).mono ?_; rintro e w3 ⟨rfl, b3⟩
    go_wp2_with fail
    refine (H3.out w3).mono ?_; rintro e w4 ⟨rfl, b4⟩
    go_wp2_with fail
    refine (H3.out w4).mono ?_; rintro e w5 ⟨rfl, b5⟩
    have hb : Below w.heap.size w w5 :=
      have c2 := b1.trans (b2.mono b1.size)
      have c3 := c2.trans (b3.mono c2.size)
      have c4 := c3.trans (b4.mono c3.size)
      c4.trans (b5.mono c4.size)
    clear b1 b2 b3 b4 b5
    go_wp2
    go_ret
    exact ⟨rfl, hb⟩
  · have n1 := mt e1 hab
    have n2 := mt e2 hab
    have n3 := mt e3 hab
    clear e1 e2 e3 hab
    unfold qv at *
    generalize (a.toNat : Int) = pa at *
    generalize (b.toNat : Int) = pb at *
    generalize ((dg a).toNat : Int) = qa at *
    generalize ((dg b).toNat : Int) = qb at *
    generalize ((fo (dg h) [a]).toNat : Int) = ra at *
    generalize ((fo (dg h) [b]).toNat : Int) = rb at *
    generalize (h.toNat : Int) = y at *
    have m1 : (qa == qb) = (pa == pb) := by rw [beq_false_of_ne n1, beq_false_of_ne n3]
    have m2 : (ra == rb) = (pa == pb) := by rw [beq_false_of_ne n2, beq_false_of_ne n3]
    have H1 := Lib.hid h1
    have H2 := Lib.hid h2
    have H3 := Lib.hid h3
    have H4 := Lib.hid h4
    clear h1 h2 h3 h4
    go_enter Try.func4, Try.ntmps4
    go_wp2_with fail
    refine (fixed_any _).mono ?_; rintro e w1 ⟨rfl, b1⟩
    go_wp2_with fail
    refine (H1.out _).mono ?_; rintro e w2 ⟨rfl, b2⟩
    go_wp2_with fail
    refine (H2.out _).mono ?_; rintro e w3 ⟨rfl, b3⟩
    go_wp2_with fail
    refine (H3.out w3).mono ?_; rintro e w4 ⟨rfl, b4⟩
    go_wp2_with fail
    refine (H4.out w4).mono ?_; rintro e w5 ⟨rfl, b5⟩
    have hb : Below w.heap.size w w5 :=
      have c2 := b1.trans (b2.mono b1.size)
      have c3 := c2.trans (b3.mono c2.size)
      have c4 := c3.trans (b4.mono c3.size)
      c4.trans (b5.mono c4.size)
    clear b1 b2 b3 b4 b5
    go_wp2
    go_ret
    exact ⟨rfl, hb⟩

end Go.Proofs.Ytclamlhipacokaa
