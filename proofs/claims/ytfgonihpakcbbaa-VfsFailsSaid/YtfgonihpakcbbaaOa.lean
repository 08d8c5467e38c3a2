/- Files in memory: an ask, a box of a file system, the files of its map. -/
import Derived.Laws.IdiomMaps
import Derived.Laws.IdiomCopy
import Derived.WalkKit
import Derived.Test.YtfgonihpakcbbaaXs
import Derived.Test.YtfgonihpakcbbaaMw
import Derived.Test.YtfgonihpakcbbaaS
namespace Go.Proofs.Ytfgonihpakcbbaa
open Go.RowKit Go.Maps Go.ChangeMaps Go.WideMaps Go.Sort

/-- A file: its bytes, how many of them are safe. -/
structure Fl where
  body : List UInt8
  safe : Nat
/-- What an ask says of the act that comes now, and what is left of it. -/
def askNow (a : Bool × Int) : Bool := a.1 && a.2 == 0
def askLeft (a : Bool × Int) : Bool × Int := if a.1 = true then (if a.2 = 0 then (false, 0) else (true, a.2 - 1)) else a
/-- What is asked, if anything: of an act that is a number. -/
def AskIn (a : Bool × Int) : Prop := a.1 = true → 0 ≤ a.2 ∧ a.2 ≤ 9223372036854775807
/-- The box of a file system. -/
def FsBox (w : World) (p b : Nat) (down : Bool) (f g : Bool × Int) : Prop := w.heap[p]? = some (.cells #[.map (some b), .bool down, .bool f.1, .int .i64 f.2, .bool g.1, .int .i64 g.2] 50 (0, 0))
theorem FsBox.lt {w : World} {p b : Nat} {down : Bool} {f g : Bool × Int} (h : FsBox w p b down f g) : p < w.heap.size := (Array.getElem?_eq_some_iff.1 h).1
theorem FsBox.kept {w w' : World} {p b : Nat} {down : Bool} {f g : Bool × Int} {row : Option Nat} (h : FsBox w p b down f g) (hg : w.grownBy w' row) (hne : some p ≠ row) : FsBox w' p b down f g := (hg.block p h.lt hne).trans h
theorem FsBox.below {w w' : World} {p b : Nat} {down : Bool} {f g : Bool × Int} (h : FsBox w p b down f g) (hb : Below w.heap.size w w') : FsBox w' p b down f g := (hb.block p h.lt).trans h

/-- A cell stored into a block that is there. -/
theorem set_grown {w : World} {p i : Nat} {cs : Array Value} {T : TypeId} (h : w.heap[p]? = some (.cells cs T (0, 0))) (u : Value) : (w.setCell ⟨p, i, none⟩ u).heap[p]? = some (.cells (cs.setIfInBounds i u) T (0, 0)) ∧ w.grownBy (w.setCell ⟨p, i, none⟩ u) (some p) := by
  exact ⟨set_same h i u, rfl, rfl, rfl, by simp, fun k _ hne => Below.heap_setCell _ _ _ k (fun e => hne (by rw [show k = p from e]))⟩
/-- An ask, in the box: the first, the second. -/
theorem size_ask : (Try.prog.info? 48).map (·.size) = some 2 := by kernel_rfl
theorem wp_store_ask {o : Oper} {a : Act} {w : World} {K : Act → World → Prop} {Q : Exit → Act → World → Prop} (x y : Operand) (ho : o.op = .store 48 x y) (p i : Nat) (c : Bool) (z : Int) (cs : Array Value) (T : TypeId)
    (hx : a.eval x = .pointer (some ⟨p, i, none⟩)) (hy : a.eval y = .agg #[.bool c, .int .i64 z]) (hg : w.heap[p]? = some (.cells cs T (0, 0))) (hi : i + 1 < cs.size)
    (h : ∀ w', w'.heap[p]? = some (.cells ((cs.setIfInBounds i (.bool c)).setIfInBounds (i + 1) (.int .i64 z)) T (0, 0)) → w.grownBy w' (some p) → K (a.put o.dst undef) w') : o.wp Try.prog a w K Q := by
  have hrow : (storeVar 48 ⟨p, i, none⟩ (.agg #[.bool c, .int .i64 z])).run Try.prog w = .ok () (w.setCells p i [.bool c, .int .i64 z]) := by
    have hs := run_storeCells_cells (P := Try.prog) p i [.bool c, .int .i64 z] 0 w (fun j hj => by
        have hj2 : j < 2 := hj
        have hlt : i + 0 + j < cs.size := by omega
        simp [World.cell?, hg]
        omega) (fun j _ => at_frozen hg) (by intro v hv; simp at hv; rcases hv with rfl | rfl <;> rfl)
    have hsz := size_ask
    cases hq : Try.prog.info? 48 with
    | none => simp [hq] at hsz
    | some q =>
      have hs4 : q.size = 2 := by simpa [hq] using hsz
      have hc : (Value.agg #[.bool c, .int .i64 z]).cells.toList = [.bool c, .int .i64 z] := rfl
      have hcs : (Value.agg #[.bool c, .int .i64 z]).cells.size = 2 := rfl
      simp [storeVar, sizeOf, typeInfo, hq, hcs, hs4, hc]
      simpa using hs
  unfold Oper.wp execOp
  simp only [ho, hx, hy, Instr.storeAt, Instr.sureAddr, Sem.run_bind, Sem.run_pure, Result.andThen_ok, hrow]
  obtain ⟨h1, h2⟩ := set_grown hg (i := i) (.bool c)
  obtain ⟨h3, h4⟩ := set_grown h1 (i := i + 1) (.int .i64 z)
  exact h _ h3 (h2.trans h4)

end Go.Proofs.Ytfgonihpakcbbaa
