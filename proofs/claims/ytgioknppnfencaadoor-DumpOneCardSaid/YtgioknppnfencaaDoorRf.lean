/- Structs compared as structs: two records' rests, two deps. -/
import Derived.Laws.StructEq
import Derived.Test.YtgioknppnfencaaDoorRd
namespace Go.Proofs.YtgioknppnfencaaDoor
open Go.RowKit

theorem fields_rest : Tryd.prog.underlying 91 = some (.struct (Tryd.prog.fieldsOf 91)) := by kernel_rfl
theorem held_rest : Tryd.prog.stoodInHeld 91 = false := by kernel_rfl
theorem fields_dep : Tryd.prog.underlying 56 = some (.struct (Tryd.prog.fieldsOf 56)) := by kernel_rfl
theorem held_dep : Tryd.prog.stoodInHeld 56 = false := by kernel_rfl

set_option maxRecDepth 100000 in
theorem rest_neq (r1 r2 : Rc) (w : World) : ∃ q : Bool, (q = true ↔ r1 ≠ r2) ∧ (binOp .neq 91 (restv r1) (restv r2)).run Tryd.prog w = .ok (.bool q) w := by
  obtain ⟨k1, t1, u1, o1, m1, g1⟩ := r1
  obtain ⟨k2, t2, u2, o2, m2, g2⟩ := r2
  unfold restv rsv
  rw [run_neq_struct, show (10000 : Nat) = 9999 + 1 from rfl, run_equalIn_agg _ _ _ _ _ fields_rest held_rest]
  simp only [Program.fieldsOf, Tryd.underlying91]
  by_cases e1 : k1 = k2
  · by_cases e2 : t1 = t2
    · by_cases e3 : g1 = g2
      · by_cases e4 : u1 = u2
        · by_cases e5 : o1 = o2
          · by_cases e6 : m1 = m2
            · subst e1 e2 e3 e4 e5 e6
              exact ⟨false, by simp, by go_simp⟩
            · subst e1 e2 e3 e4 e5
              have h : (m1 == m2) = false := by rw [beq_eq_false_iff_ne]; exact e6
              exact ⟨true, by simp [e6], by go_simp⟩
          · subst e1 e2 e3 e4
            have h : (o1 == o2) = false := by rw [beq_eq_false_iff_ne]; exact e5
            exact ⟨true, by simp [e5], by go_simp⟩
        · subst e1 e2 e3
          have h : (u1 == u2) = false := by rw [beq_eq_false_iff_ne]; exact e4
          exact ⟨true, by simp [e4], by go_simp⟩
      · subst e1 e2
        have h := tx_unlike e3
        exact ⟨true, by simp [e3], by go_simp⟩
    · subst e1
      have h := tx_unlike e2
      exact ⟨true, by simp [e2], by go_simp⟩
  · have h : (k1 == k2) = false := by rw [beq_eq_false_iff_ne]; exact e1
    exact ⟨true, by simp [e1], by go_simp⟩

def Dp.val (d : Dp) : Value := .agg #[rsv d.name, .int .u64 d.hash, .bool d.order]

set_option maxRecDepth 100000 in
theorem dep_neq (r1 r2 : Dp) (w : World) : ∃ q : Bool, (q = true ↔ r1 ≠ r2) ∧ (binOp .neq 56 r1.val r2.val).run Tryd.prog w = .ok (.bool q) w := by
  obtain ⟨t1, u1, o1⟩ := r1
  obtain ⟨t2, u2, o2⟩ := r2
  unfold Dp.val rsv
  rw [run_neq_struct, show (10000 : Nat) = 9999 + 1 from rfl, run_equalIn_agg _ _ _ _ _ fields_dep held_dep]
  simp only [Program.fieldsOf, Tryd.underlying56]
  by_cases e2 : t1 = t2
  · by_cases e4 : u1 = u2
    · by_cases e5 : o1 = o2
      · subst e2 e4 e5
        exact ⟨false, by simp, by go_simp⟩
      · subst e2 e4
        have h : (o1 == o2) = false := by rw [beq_eq_false_iff_ne]; exact e5
        exact ⟨true, by simp [e5], by go_simp⟩
    · subst e2
      have h : (u1 == u2) = false := by rw [beq_eq_false_iff_ne]; exact e4
      exact ⟨true, by simp [e4], by go_simp⟩
  · have h := tx_unlike e2
    exact ⟨true, by simp [e2], by go_simp⟩

end Go.Proofs.YtgioknppnfencaaDoor
