/- The walk of step: a call of the program's cursor and of the document's. -/
import Derived.Test.YtkpgnpiofhgcpaaJl
import Derived.Test.YtkpgnpiofhgcpaaJn
namespace Go.Proofs.Ytkpgnpiofhgcpaa
open Go.RowKit

theorem Only.setRow {g : Nat} {w : World} (cs : Array Value) : Only g w (w.setRow g cs) := ⟨rfl, rfl, rfl, by simp [World.setRow], fun k _ hn => setRow_other w g k cs hn⟩

def bothv (b : Nat) (c : Cu) : Value := .agg #[.pointer (some ⟨b, 0, none⟩), .string (tx c.bs), .int .i64 (c.at_ : Int), .int .i64 c.e]
def bothc (b : Nat) (c : Cu) : Array Value := #[.pointer (some ⟨b, 0, none⟩), .string (tx c.bs), .int .i64 (c.at_ : Int), .int .i64 c.e]
def zero4 : Array Value := #[.pointer none, .string ⟨#[]⟩, .int .i64 0, .int .i64 0]

/-- Within step, behind both calls: the cursor, the pair, and the room for what is answered. -/
structure StepIn (w W : World) (B b : Nat) (c : Cu) : Prop where
  cur : CurIn W B b c
  both : W.heap[w.heap.size]? = some (.cells (bothc b c) 31 (0, 0))
  res : W.heap[w.heap.size + 2]? = some (.cells zero4 31 (0, 0))
  only : Only b w W
  size : w.heap.size + 3 ≤ W.heap.size
  lt : b < w.heap.size

theorem StepIn.below {w W W' : World} {B b : Nat} {c : Cu} (h : StepIn w W B b c) (hb : Below W.heap.size W W') : StepIn w W' B b c :=
  have hs := h.size
  ⟨h.cur.below hb h.cur.lt, (hb.block w.heap.size (by omega)).trans h.both, (hb.block (w.heap.size + 2) (by omega)).trans h.res, h.only.trans (Only.of_below hb), by have := hb.size; omega, h.lt⟩

/-- The class of worlds in step's last region: but the room for what is answered nothing turns. -/
def StepW (w w5 X : World) : Prop := Only (w.heap.size + 2) w5 X ∧ ∃ p s x e, X.heap[w.heap.size + 2]? = some (.cells #[p, s, x, e] 31 (0, 0))

theorem StepIn.start {w W : World} {B b : Nat} {c : Cu} (h : StepIn w W B b c) : StepW w W W.drew := ⟨Only.of_below ((Below.refl _ W).drew), _, _, _, _, h.res⟩
theorem StepW.below {w w5 X Y : World} (h : StepW w w5 X) (hb : Below X.heap.size X Y) : StepW w w5 Y := by
  obtain ⟨h1, p, s, x, e, h2⟩ := h
  exact ⟨h1.trans (Only.of_below hb), p, s, x, e, (hb.block _ (lt_of_block h2)).trans h2⟩
theorem StepW.setRow {w w5 X : World} (h : StepW w w5 X) (p s x e : Value) : StepW w w5 (X.setRow (w.heap.size + 2) #[p, s, x, e]) := by
  obtain ⟨h1, _, _, _, _, h2⟩ := h
  exact ⟨h1.trans (Only.setRow _), p, s, x, e, setRow_heap _ _ _ _ _ _ h2⟩
theorem StepW.cur {w w5 X : World} {B b : Nat} {c : Cu} (h : StepW w w5 X) (hi : StepIn w w5 B b c) : CurIn X B b c :=
  hi.cur.only h.1 (by have := hi.cur.le; have := hi.lt; omega) (by have := hi.lt; omega)
theorem StepW.cells {w w5 X : World} {B b : Nat} {c : Cu} (h : StepW w w5 X) (hi : StepIn w w5 B b c) :
    X.cell? ⟨w.heap.size, 0, none⟩ = some (.pointer (some ⟨b, 0, none⟩)) ∧ X.cell? ⟨w.heap.size, 1, none⟩ = some (.string (tx c.bs)) ∧ X.cell? ⟨w.heap.size, 2, none⟩ = some (.int .i64 (c.at_ : Int)) ∧ X.cell? ⟨w.heap.size, 3, none⟩ = some (.int .i64 c.e) := by
  have h2 := (h.1.block w.heap.size (by have := hi.size; omega) (by omega)).trans hi.both
  exact ⟨field_cell h2 rfl, field_cell h2 rfl, field_cell h2 rfl, field_cell h2 rfl⟩

theorem results_cell_tmp_row {P : Program} {fn : Func} {u p : Tmp} {ty : TypeId} (h : fn.results = #[.cell p ty, .tmp u]) (tmps : Array Value) (w : World) (g : Nat) (t : TypeId) (cs : Array Value) (fr : Nat × Nat) (d : TypeDesc)
    (hp : tmps.getD p undef = .pointer (some ⟨g, 0, none⟩)) (hg : w.heap[g]? = some (.cells cs t fr))
    (hu : P.underlying ty = some d) (hd : (match d with | .struct _ | .array _ _ => true | _ => false) = true) (hi : (P.info? ty).map (·.size) = some cs.size) :
    (results fn tmps).run P w = .ok (.tuple #[.agg cs, tmps.getD u undef]) w := by
  have hp' : tmps[p]?.getD undef = .pointer (some ⟨g, 0, none⟩) := by simpa using hp
  simp [results, h, hp', asAddr, run_loadVar_row w g t ty cs fr d hg hu hd hi]

theorem three_any {w w1 : World} {a b o : Obj} (h : Below (((w.alloc a).alloc b).alloc o).heap.size (((w.alloc a).alloc b).alloc o) w1) :
    w1.heap[w.heap.size]? = some a ∧ w1.heap[w.heap.size + 1]? = some b ∧ w1.heap[w.heap.size + 2]? = some o ∧ Below w.heap.size w w1 ∧ w.heap.size + 3 ≤ w1.heap.size := by
  have h0 : Below ((w.alloc a).alloc b).heap.size ((w.alloc a).alloc b) w1 := ((Below.refl _ _).alloc (Nat.le_refl _) _).trans (h.mono (by simp))
  obtain ⟨h1, h2, h3, _⟩ := two_old h0
  refine ⟨h1, h2, ?_, h3, by have := h.size; simpa using this⟩
  have e : ((w.alloc a).alloc b).heap.size = w.heap.size + 2 := by simp
  have := h.block (w.heap.size + 2) (by simp)
  rw [this, ← e]
  exact heap_alloc_new _ _

theorem setAt {w : World} {g : Nat} {t : TypeId} {p x y z : Value} (h : w.heap[g]? = some (.cells #[p, x, y, z] t (0, 0))) (a b c : Value) :
    (((w.setCell ⟨g, 1, none⟩ a).setCell ⟨g, 2, none⟩ b).setCell ⟨g, 3, none⟩ c).heap[g]? = some (.cells #[p, a, b, c] t (0, 0)) :=
  heap_setCell_same _ _ 3 _ _ _ (heap_setCell_same _ _ 2 _ _ _ (heap_setCell_same _ _ 1 _ _ _ h))
theorem setAt_only {w : World} {g : Nat} {a b c : Value} : Only g w (((w.setCell ⟨g, 1, none⟩ a).setCell ⟨g, 2, none⟩ b).setCell ⟨g, 3, none⟩ c) :=
  ((Only.setCell (b := g) (i := 1) a).trans (Only.setCell (b := g) (i := 2) b)).trans (Only.setCell (b := g) (i := 3) c)

/-- Behind the document's call and the store of what it answered: what stands where the program's own call begins. -/
theorem step_mid {w z y w5 : World} {B b : Nat} {c c2 : Cu} {a b' c' : Value} (hlt : b < w.heap.size) (h : CurIn z B b c) (hz : z.heap[w.heap.size]? = some (.cells (bothc b c) 31 (0, 0))) (hz2 : z.heap[w.heap.size + 2]? = some (.cells zero4 31 (0, 0)))
    (hb : Below w.heap.size w z) (hsz : w.heap.size + 3 ≤ z.heap.size)
    (ha : a = .string (tx c2.bs)) (hb' : b' = .int .i64 (c2.at_ : Int)) (hc' : c' = .int .i64 c2.e) (hy : y = ((z.setCell ⟨w.heap.size, 1, none⟩ a).setCell ⟨w.heap.size, 2, none⟩ b').setCell ⟨w.heap.size, 3, none⟩ c') :
    CurIn y B b c ∧ (CurIn w5 B b c2 → Only b y w5 → StepIn w w5 B b c2) := by
  subst ha hb' hc' hy
  have hle := h.le
  refine ⟨h.only setAt_only (by omega) (by omega), fun h5 ho => ?_⟩
  have hys : (((z.setCell ⟨w.heap.size, 1, none⟩ (.string (tx c2.bs))).setCell ⟨w.heap.size, 2, none⟩ (.int .i64 (c2.at_ : Int))).setCell ⟨w.heap.size, 3, none⟩ (.int .i64 c2.e)).heap.size = z.heap.size := by simp [World.setCell]
  refine ⟨h5, (ho.block w.heap.size (by rw [hys]; omega) (by omega)).trans (setAt hz _ _ _), (ho.block (w.heap.size + 2) (by rw [hys]; omega) (by omega)).trans ((setAt_only.block (w.heap.size + 2) (by omega) (by omega)).trans hz2), ?_, by have := ho.size; rw [hys] at this; omega, hlt⟩
  exact (((Only.of_below (hb.mono (Nat.le_refl _))) : Only b w z).next (setAt_only.below (Nat.le_refl _) (by omega))).trans ho

end Go.Proofs.Ytkpgnpiofhgcpaa
