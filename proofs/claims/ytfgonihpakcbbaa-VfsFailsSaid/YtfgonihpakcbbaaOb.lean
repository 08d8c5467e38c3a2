/- Asks: comes, asked. -/
import Derived.Test.YtfgonihpakcbbaaOa
import Derived.Test.YtfgonihpakcbbaaH3
namespace Go.Proofs.Ytfgonihpakcbbaa
open Go.RowKit Go.Maps Go.Sort

set_option maxRecDepth 100000 in
set_option maxHeartbeats 1000000 in
theorem comes_fail (p b : Nat) (down : Bool) (f g : Bool × Int) (hf : AskIn f) (w : World) (h : FsBox w p b down f g) :
    Calls Try.prog 39 #[.pointer (some ⟨p, 2, none⟩)] w fun e w' => e = .returned (.bool (askNow f)) ∧ FsBox w' p b down (askLeft f) g ∧ w.grownBy w' (some p) := by
  obtain ⟨f1, f2⟩ := f
  obtain ⟨g1, g2⟩ := g
  unfold FsBox at h
  simp only at h
  have HBX := Lib.hid h
  have q0 := at_cell (i := 2) h rfl
  have q1 := at_cell (i := 3) h rfl
  have fz0 : w.frozen? ⟨p, 2, none⟩ = false := at_frozen h
  have fz1 : w.frozen? ⟨p, 3, none⟩ = false := at_frozen h
  clear h
  cases f1 with
  | false =>
    go_enter Try.func39, Try.ntmps39
    go_wp2
    go_ret
    exact ⟨rfl, HBX.out, World.grownBy.refl _ _⟩
  | true =>
    by_cases hz : f2 = 0
    · subst hz
      go_enter Try.func39, Try.ntmps39
      go_wp2
      go_ret
      obtain ⟨h1, g1'⟩ := set_grown HBX.out (i := 2) (.bool false)
      obtain ⟨h2, g2'⟩ := set_grown h1 (i := 3) (.int .i64 0)
      exact ⟨rfl, h2, g1'.trans g2'⟩
    · have hne : (f2 == 0) = false := by rw [beq_eq_false_iff_ne]; exact hz
      obtain ⟨b1, b2⟩ := hf rfl
      have HL : Hid (askLeft (true, f2) = (true, f2 - 1)) := by show askLeft _ = _; unfold askLeft; rw [if_pos rfl, if_neg hz]
      have HN : Hid (askNow (true, f2) = false) := by show askNow _ = _; unfold askNow; simp [hz]
      have HS := Lib.hid (set_grown HBX.out (i := 3) (.int .i64 (f2 - 1)))
      rw [HL.out, HN.out]
      clear hz
      go_enter Try.func39, Try.ntmps39
      go_wp2
      go_ret
      exact ⟨rfl, HS.out.1, HS.out.2⟩

set_option maxRecDepth 100000 in
set_option maxHeartbeats 1000000 in
theorem comes_fall (p b : Nat) (down : Bool) (f g : Bool × Int) (hf : AskIn g) (w : World) (h : FsBox w p b down f g) :
    Calls Try.prog 39 #[.pointer (some ⟨p, 4, none⟩)] w fun e w' => e = .returned (.bool (askNow g)) ∧ FsBox w' p b down f (askLeft g) ∧ w.grownBy w' (some p) := by
  obtain ⟨f1, f2⟩ := f
  obtain ⟨g1, g2⟩ := g
  unfold FsBox at h
  simp only at h
  have HBX := Lib.hid h
  have q0 := at_cell (i := 4) h rfl
  have q1 := at_cell (i := 5) h rfl
  have fz0 : w.frozen? ⟨p, 4, none⟩ = false := at_frozen h
  have fz1 : w.frozen? ⟨p, 5, none⟩ = false := at_frozen h
  clear h
  cases g1 with
  | false =>
    go_enter Try.func39, Try.ntmps39
    go_wp2
    go_ret
    exact ⟨rfl, HBX.out, World.grownBy.refl _ _⟩
  | true =>
    by_cases hz : g2 = 0
    · subst hz
      go_enter Try.func39, Try.ntmps39
      go_wp2
      go_ret
      obtain ⟨h1, g1'⟩ := set_grown HBX.out (i := 4) (.bool false)
      obtain ⟨h2, g2'⟩ := set_grown h1 (i := 5) (.int .i64 0)
      exact ⟨rfl, h2, g1'.trans g2'⟩
    · have hne : (g2 == 0) = false := by rw [beq_eq_false_iff_ne]; exact hz
      obtain ⟨b1, b2⟩ := hf rfl
      have HL : Hid (askLeft (true, g2) = (true, g2 - 1)) := by show askLeft _ = _; unfold askLeft; rw [if_pos rfl, if_neg hz]
      have HN : Hid (askNow (true, g2) = false) := by show askNow _ = _; unfold askNow; simp [hz]
      have HS := Lib.hid (set_grown HBX.out (i := 5) (.int .i64 (g2 - 1)))
      rw [HL.out, HN.out]
      clear hz
      go_enter Try.func39, Try.ntmps39
      go_wp2
      go_ret
      exact ⟨rfl, HS.out.1, HS.out.2⟩

/-- What is asked of so many acts. -/
def askOf (n : Int) : Bool × Int := (decide (n ≥ 0), n)
set_option maxRecDepth 100000 in
theorem asked_any (n : Int) (w : World) : Calls Try.prog 28 #[.int .i64 n] w fun e w' => e = .returned (.agg #[.bool (askOf n).1, .int .i64 (askOf n).2]) ∧ Below w.heap.size w w' := by
  unfold askOf
  have HB := Lib.hid ((Below.refl w.heap.size w).alloc (Nat.le_refl _) (.cells #[.bool (decide (n ≥ 0)), .int .i64 n] 48))
  have hnew := one_new w (.cells #[.bool (decide (n ≥ 0)), .int .i64 n] 48)
  have q0 := at_cell (i := 0) hnew rfl
  have q1 := at_cell (i := 1) hnew rfl
  clear hnew
  go_enter Try.func28, Try.ntmps28
  go_wp2
  refine bodyPost_ret (v := .agg #[.bool (decide (n ≥ 0)), .int .i64 n]) (by simp [results, Try.results28, go_sem, q0, q1]) rfl ⟨rfl, HB.out⟩

end Go.Proofs.Ytfgonihpakcbbaa
