/- step at whichever kind; the head of CursorPlays. -/
import Derived.Test.YtkpgnpiofhgcpaaJq0
import Derived.Test.YtkpgnpiofhgcpaaJq1
import Derived.Test.YtkpgnpiofhgcpaaJq2
import Derived.Test.YtkpgnpiofhgcpaaJq3
import Derived.Test.YtkpgnpiofhgcpaaJq4
import Derived.Test.YtkpgnpiofhgcpaaJq5
import Derived.Test.YtkpgnpiofhgcpaaJq6
import Derived.Test.YtkpgnpiofhgcpaaJs
namespace Go.Proofs.Ytkpgnpiofhgcpaa
open Go.RowKit

def Tk.step (t : Tk) (c : Cu) : Cu :=
  if t.kind = 0 then c.byte.2 else if t.kind = 1 then c.num.2 else if t.kind = 2 then (c.text t.most).2 else if t.kind = 3 then (c.nums t.most).2 else if t.kind = 4 then (c.texts t.most t.each).2 else if t.kind = 5 then c.fail t.most else c

theorem step_all (B b : Nat) (c : Cu) (t : Tk) (hf : t.fits) (w : World) (h : CurIn w B b c) :
    Calls Try.prog 9 #[bothv b c, .agg #[.int .i64 t.kind, .int .i64 t.most, .int .i64 t.each]] w fun e w' => e = .returned (.tuple #[bothv b (t.step c), .bool true]) ∧ CurIn w' B b (t.step c) ∧ Only b w w' := by
  obtain ⟨kd, mo, ea⟩ := t
  unfold Tk.step
  dsimp only
  by_cases h0 : kd = 0
  · subst h0; rw [if_pos rfl]; exact step_0 B b c mo ea w h
  rw [if_neg h0]
  by_cases h1 : kd = 1
  · subst h1; rw [if_pos rfl]; exact step_1 B b c mo ea w h
  rw [if_neg h1]
  by_cases h2 : kd = 2
  · subst h2; rw [if_pos rfl]; exact step_2 B b c mo ea hf w h
  rw [if_neg h2]
  by_cases h3 : kd = 3
  · subst h3; rw [if_pos rfl]; exact step_3 B b c mo ea hf w h
  rw [if_neg h3]
  by_cases h4 : kd = 4
  · subst h4; rw [if_pos rfl]; exact step_4 B b c mo ea hf w h
  rw [if_neg h4]
  by_cases h5 : kd = 5
  · subst h5; rw [if_pos rfl]; exact step_5 B b c mo ea w h
  rw [if_neg h5]
  exact step_6 B b c kd mo ea h0 h1 h2 h3 h4 h5 w h

end Go.Proofs.Ytkpgnpiofhgcpaa
