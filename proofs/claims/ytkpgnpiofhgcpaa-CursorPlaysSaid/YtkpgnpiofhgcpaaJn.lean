/- Calls that are asked for, as they lie in memory. -/
import Derived.Test.YtkpgnpiofhgcpaaJe
namespace Go.Proofs.Ytkpgnpiofhgcpaa
open Go.RowKit

/-- A call that is asked for, as a value of Go. -/
structure Tk where
  kind : Int
  most : Int
  each : Int

def Tk.cells (t : Tk) : List Value := [.int .i64 t.kind, .int .i64 t.most, .int .i64 t.each]
def tks (l : List Tk) : List Value := l.flatMap Tk.cells

theorem tks_len (l : List Tk) : (tks l).length = l.length * 3 := by
  induction l with
  | nil => rfl
  | cons t l ih => simp [tks, Tk.cells] at *; omega
theorem tks_at : ∀ (l : List Tk) (i : Nat) (t : Tk), l[i]? = some t → (tks l)[i * 3]? = some (.int .i64 t.kind) ∧ (tks l)[i * 3 + 1]? = some (.int .i64 t.most) ∧ (tks l)[i * 3 + 2]? = some (.int .i64 t.each)
  | [], i, t, h => by simp at h
  | a :: l, 0, t, h => by
    have : a = t := by simpa using h
    subst this
    exact ⟨rfl, rfl, rfl⟩
  | a :: l, i + 1, t, h => by
    have := tks_at l i t (by simpa using h)
    have e : ∀ j, (tks (a :: l))[(i + 1) * 3 + j]? = (tks l)[i * 3 + j]? := fun j => by
      show (Tk.cells a ++ tks l)[(i + 1) * 3 + j]? = _
      rw [List.getElem?_append_right (by simp [Tk.cells]; omega)]
      congr 1
      simp [Tk.cells]; omega
    exact ⟨(e 0).trans this.1, (e 1).trans this.2.1, (e 2).trans this.2.2⟩

theorem add_one (a : Addr) (k : Nat) : a.add (k + 1) = ⟨(a.add k).block, (a.add k).off + 1, none⟩ := by
  unfold Addr.add
  by_cases h : k = 0
  · subst h; rfl
  · simp [h, Nat.add_assoc]
theorem add_two (a : Addr) (k : Nat) : a.add (k + 2) = ⟨(a.add k).block, (a.add k).off + 2, none⟩ := by
  unfold Addr.add
  by_cases h : k = 0
  · subst h; rfl
  · simp [h, Nat.add_assoc]

theorem all_e {α : Type} {one : Cu → α × Cu} {c : Cu} (most : Int) (h : c.e ≠ 0) : Cu.all one c most = ([], c) := by
  have e1 : c.num = (0, c) := Cu.tk_e h
  have e2 : c.cnt most = (0, c) := by
    rw [Cu.cnt, e1, if_neg (by simp only; omega)]
  have e3 : Cu.many one ((0, c) : Nat × Cu).1 ((0, c) : Nat × Cu).2 = ([], c) := rfl
  rw [Cu.all, e2, e3]
  exact Prod.ext (if_neg h) rfl

/-- Each fits. -/
def Tk.fits (t : Tk) : Prop := t.most < 9223372036854775808 ∧ t.each < 9223372036854775808

end Go.Proofs.Ytkpgnpiofhgcpaa
