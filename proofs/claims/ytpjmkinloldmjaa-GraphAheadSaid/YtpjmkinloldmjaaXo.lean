/- A row of nodes of one's own: a node stored into it. -/
import Derived.Laws.IdiomCopy
import Derived.Test.YtpjmkinloldmjaaXn
namespace Go.Proofs.Ytpjmkinloldmjaa
open Go.RowKit Go.Sort

def setL (xs : List Value) : Nat → List Value → List Value
  | _, [] => xs
  | o, v :: r => setL (xs.set o v) (o + 1) r
theorem setL_app (p : List Value) : ∀ (vs r : List Value) (o : Nat), setL (p ++ r) (p.length + o) vs = p ++ setL r o vs
  | [], r, o => rfl
  | v :: vs, r, o => by
    show setL ((p ++ r).set (p.length + o) v) (p.length + o + 1) vs = p ++ setL (r.set o v) (o + 1) vs
    rw [List.set_append_right _ _ (by omega), Nat.add_sub_cancel_left, Nat.add_assoc, setL_app p vs (r.set o v) (o + 1)]
theorem setL_nws (y : Nw) : ∀ (xs : List Nw) (i : Nat), i < xs.length → setL (nws xs) (i * 4) y.cells = nws (xs.set i y)
  | [], i, h => by simp at h
  | a :: xs, 0, _ => by
    rw [List.set_cons_zero, nws_cons, nws_cons]
    rfl
  | a :: xs, i + 1, h => by
    rw [List.set_cons_succ, nws_cons, nws_cons, show (i + 1) * 4 = a.cells.length + i * 4 by rw [ncells_len]; omega, setL_app, setL_nws y xs i (by simpa using h)]
theorem own_setCells {base g n cap size : Nat} {e : TypeId} : ∀ (vs : List Value) (o : Nat) (w : World) (xs : List Value), w.ownsRow base e size (.slice (some ⟨g, 0, none⟩) n cap) n xs →
    (w.setCells g o vs).ownsRow base e size (.slice (some ⟨g, 0, none⟩) n cap) n (setL xs o vs) ∧ w.grownBy (w.setCells g o vs) (some g)
  | [], o, w, xs, h => ⟨h, World.grownBy.refl w _⟩
  | v :: r, o, w, xs, h => by
    obtain ⟨h1, h2⟩ := h.stored o v
    obtain ⟨h3, h4⟩ := own_setCells r (o + 1) _ _ h1
    exact ⟨h3, h2.trans h4⟩
theorem size_node : (Try.prog.info? 40).map (·.size) = some 4 := by kernel_rfl
/-- A node stored into a row of nodes. -/
theorem wp_store_node {o : Oper} {a : Act} {w : World} {K : Act → World → Prop} {Q : Exit → Act → World → Prop} (x y : Operand) (ho : o.op = .store 40 x y)
    (g i : Nat) (z : Nw) (hx : a.eval x = .pointer (some ⟨g, i * 4, none⟩)) (hy : a.eval y = z.val)
    (base n cap : Nat) (ys : List Nw) (hown : w.ownsRow base 40 4 (.slice (some ⟨g, 0, none⟩) n cap) n (nws ys)) (hi : i < ys.length)
    (h : ∀ w', w'.ownsRow base 40 4 (.slice (some ⟨g, 0, none⟩) n cap) n (nws (ys.set i z)) → w.grownBy w' (some g) → K (a.put o.dst undef) w') : o.wp Try.prog a w K Q := by
  obtain ⟨h1, h2⟩ := own_setCells z.cells (i * 4) w _ hown
  rw [setL_nws z ys i hi] at h1
  have hrow : (storeVar 40 ⟨g, i * 4, none⟩ z.val).run Try.prog w = .ok () (w.setCells g (i * 4) z.cells) := by
    have hlen : (nws ys).length = ys.length * 4 := nws_len ys
    have hs := run_storeCells_cells (P := Try.prog) g (i * 4) z.cells 0 w (fun j hj => by
        rw [ncells_len] at hj
        have hlt : i * 4 + 0 + j < (nws ys).length := by omega
        rw [hown.cellAt _ (by have := hown.1; omega), List.getElem?_eq_getElem hlt]
        rfl) (fun j _ => hown.frozenAt _) (fun v hv => by
        simp only [Nw.cells, List.mem_cons, List.not_mem_nil, or_false] at hv
        rcases hv with rfl | rfl | rfl | rfl <;> rfl)
    have hsz := size_node
    cases hq : Try.prog.info? 40 with
    | none => simp [hq] at hsz
    | some q =>
      have hs4 : q.size = 4 := by simpa [hq] using hsz
      have hc : z.val.cells.toList = z.cells := rfl
      have hcs : z.val.cells.size = 4 := rfl
      simp [storeVar, sizeOf, typeInfo, hq, hcs, hs4, hc]
      simpa using hs
  unfold Oper.wp execOp
  simp only [ho, hx, hy, Instr.storeAt, Instr.sureAddr, Sem.run_bind, Sem.run_pure, Result.andThen_ok, hrow]
  exact h _ h1 h2

end Go.Proofs.Ytpjmkinloldmjaa
