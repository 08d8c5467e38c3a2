/- Files taken away; the closures of Remove, Sync and Rename. -/
import Derived.Maps.OwnSet
import Derived.Test.YtfgonihpakcbbaaOi
namespace Go.Proofs.Ytfgonihpakcbbaa
open Go.RowKit Go.Maps Go.ChangeMaps Go.WideMaps Go.Sort

def fdel (f : List UInt8 → Option Value) (s : List UInt8) : List UInt8 → Option Value := fun u => if u = s then none else f u
theorem mapF_del {D : DataW Value} {f : List UInt8 → Option Value} (h : MapF D f) (s : List UInt8) : MapF (D.del (.string s)) (fdel f s) := by
  intro u z
  unfold fdel
  by_cases e : u = s
  · subst e
    rw [if_pos rfl, atKey_del_same]
  · rw [if_neg e, atKey_del_other (by intro h2; exact e (by injection h2)), h u z]
/-- 'delete(m, k)', as one operation. -/
theorem wp_tdel {o : Oper} {a : Act} {w : World} {K : Act → World → Prop} {Q : Exit → Act → World → Prop} (m x : Operand) (t : TypeId) (hop : o.op = Op.call { callee := Callee.builtin Builtin.delete, args := #[m, x], argTypes := #[t, 9] }) (e : TypeId) (ht : Try.prog.underlying t = some (.map 9 e)) (b N : Nat) (f : List UInt8 → Option Value) (hm : a.eval m = .map (some b)) (h : TMap w b N f)
    (s : List UInt8) (hx : a.eval x = .string (tx s)) (hs : s.length ≤ maxLen)
    (hK : ∀ w', TMap w' b N (fdel f s) → w.grownBy w' (some b) → K (a.put o.dst (.tuple #[])) w') : o.wp Try.prog a w K Q := by
  obtain ⟨D, h1, h2⟩ := h
  obtain ⟨w', hrun, r1, r2⟩ := h1.drop xkey ht (xkeyOf hs) o.type
  unfold Oper.wp
  simp [execOp, hop, resolve, invoke, builtin, hm, hx, hrun, Result.andThen]
  exact hK w' ⟨_, r1, mapF_del h2 s⟩ r2.grown
/-- A file taken away. -/
theorem files_del {w1 w2 : World} {base b N : Nat} {fl : List UInt8 → Option Fl} {f : List UInt8 → Option Value} {s : List UInt8} (h : FilesF w1 base b N fl f) (hm : TMap w2 b N (fdel f s)) (hg : w1.grownBy w2 (some b)) : FilesF w2 base b N (flput fl s none) (fdel f s) := by
  obtain ⟨es, ck, hb⟩ := h.1.heap
  obtain ⟨h1, h2, h3, h4⟩ := h
  refine ⟨hm, fun u hu => ?_, fun u x hx => ?_, fun u u' A n c q A' n' c' q' hne e1 e2 => ?_⟩
  · unfold fdel
    unfold flput at hu
    by_cases e : u = s
    · rw [if_pos e]
    · rw [if_neg e] at hu ⊢; exact h2 u hu
  · unfold flput at hx
    unfold fdel
    by_cases e : u = s
    · rw [if_pos e] at hx; cases hx
    · rw [if_neg e] at hx ⊢
      obtain ⟨A, c, e', hA, ho⟩ := h3 u x hx
      exact ⟨A, c, e', hA, ho.kept hg (.inr (own_map ho hb))⟩
  · unfold fdel at e1 e2
    by_cases k1 : u = s
    · rw [if_pos k1] at e1; cases e1
    · rw [if_neg k1] at e1
      by_cases k2 : u' = s
      · rw [if_pos k2] at e2; cases e2
      · rw [if_neg k2] at e2
        exact h4 u u' A n c q A' n' c' q' hne e1 e2
theorem blk_del {p b k : Nat} {f : List UInt8 → Option Value} {s : List UInt8} (h : FsBlk p b (fdel f s) k) : FsBlk p b f k := by
  rcases h with h | h | ⟨u, A, n, c, q, e, hk⟩
  · exact .inl h
  · exact .inr (.inl h)
  · unfold fdel at e
    by_cases k1 : u = s
    · rw [if_pos k1] at e; cases e
    · rw [if_neg k1] at e
      exact .inr (.inr ⟨u, A, n, c, q, e, hk⟩)

set_option maxRecDepth 100000 in
set_option maxHeartbeats 2000000 in
theorem remove_do (p b N base bf bn : Nat) (d : Bool) (fa ga : Bool × Int) (fl : List UInt8 → Option Fl) (FM : List UInt8 → Option Value) (s : List UInt8) (hs : s.length ≤ maxLen) (W : World)
    (hx : FsBox W p b d fa ga) (hf : FilesF W base b N fl FM) (h1 : W.heap[bf]? = some (.cells #[.pointer (some ⟨p, 0, none⟩)] 26)) (h2 : W.heap[bn]? = some (.cells #[.string (tx s)] 9)) :
    Calls Try.prog 35 #[.pointer (some ⟨bf, 0, none⟩), .pointer (some ⟨bn, 0, none⟩)] W fun e w' => e = .returned (.tuple #[]) ∧
      ∃ F', FilesF w' base b N (flput fl s none) F' ∧ FsBox w' p b d fa ga ∧ Turn (FsBlk p b FM) W w' ∧ ∀ j, FsBlk p b F' j → FsBlk p b FM j ∨ W.heap.size ≤ j := by
  obtain ⟨es0, ck0, hmb⟩ := hf.1.heap
  have hne : ∀ (j : Nat) (cs : Array Value) (T : TypeId), W.heap[j]? = some (.cells cs T (0, 0)) → j ≠ b := fun j cs T hj e => by rw [e, hmb] at hj; cases hj
  have hc : ∀ (j : Nat) (cs : Array Value) (T : TypeId), W.heap[j]? = some (.cells cs T (0, 0)) → ∀ v : World, (∀ j : Nat, j < W.heap.size → j ≠ b → v.heap[j]? = W.heap[j]?) → v.heap[j]? = some (.cells cs T (0, 0)) := fun j cs T hj v hv => (hv j (lt_heapv hj) (hne j cs T hj)).trans hj
  have HCF : Hid (∀ v : World, (∀ j : Nat, j < W.heap.size → j ≠ b → v.heap[j]? = W.heap[j]?) → v.cell? ⟨bf, 0, none⟩ = some (.pointer (some ⟨p, 0, none⟩))) := fun v hv => at_cell (i := 0) (hc bf _ _ h1 v hv) rfl
  have HCN : Hid (∀ v : World, (∀ j : Nat, j < W.heap.size → j ≠ b → v.heap[j]? = W.heap[j]?) → v.cell? ⟨bn, 0, none⟩ = some (.string (tx s))) := fun v hv => at_cell (i := 0) (hc bn _ _ h2 v hv) rfl
  have HCM : Hid (∀ v : World, (∀ j : Nat, j < W.heap.size → j ≠ b → v.heap[j]? = W.heap[j]?) → v.cell? ⟨p, 0, none⟩ = some (.map (some b))) := fun v hv => at_cell (i := 0) (hc p _ _ hx v hv) rfl
  have HX := Lib.hid hx
  have HF := Lib.hid hf
  have HM := Lib.hid hf.1
  have HPB := Lib.hid (hne p _ _ hx)
  clear hx hf h1 h2 hmb hne hc
  go_enter Try.func35, Try.ntmps35
  go_wp2
  refine wp_region_held (S := fun v => ∀ j : Nat, j < W.heap.size → j ≠ b → v.heap[j]? = W.heap[j]?) (by kernel_rfl) (show wpAnyH _ _ _ _ _ _ _ _ (W.drew) from ?_)
  have ONLY : Hid (∀ j : Nat, j < W.heap.size → j ≠ b → W.drew.heap[j]? = W.heap[j]?) := fun _ _ _ => rfl
  have HGD : Hid (W.grownBy W.drew none) := ⟨rfl, rfl, rfl, Nat.le_refl _, fun _ _ _ => rfl⟩
  have HMD : Hid (TMap W.drew b N FM) := HM.out.at_heap rfl
  obtain ⟨v0, hv0⟩ : ∃ x, x = W.drew := ⟨_, rfl⟩
  rw [← hv0] at ONLY HGD HMD ⊢
  clear hv0
  refine h_take 0 (.pointer (some ⟨p, 0, none⟩)) rfl (by kernel_rfl) (by kernel_rfl) (by kernel_rfl) (fun _ _ _ h => h) (by kernel_rfl) ONLY.out (by intro v hv; have z0 := HCF.out v hv; go_simp) ?_
  refine h_take 1 (.pointer (some ⟨p, 0, none⟩)) rfl (by kernel_rfl) (by kernel_rfl) (by kernel_rfl) (fun _ _ _ h => h) (by kernel_rfl) ONLY.out (by intro v hv; go_simp) ?_
  refine h_take 2 (.pointer (some ⟨p, 0, none⟩)) rfl (by kernel_rfl) (by kernel_rfl) (by kernel_rfl) (fun _ _ _ h => h) (by kernel_rfl) ONLY.out (by intro v hv; go_simp) ?_
  refine h_take 3 (.map (some b)) rfl (by kernel_rfl) (by kernel_rfl) (by kernel_rfl) (fun _ _ _ h => h) (by kernel_rfl) ONLY.out (by intro v hv; have z0 := HCM.out v hv; go_simp) ?_
  refine h_take 4 (.string (tx s)) rfl (by kernel_rfl) (by kernel_rfl) (by kernel_rfl) (fun _ _ _ h => h) (by kernel_rfl) ONLY.out (by intro v hv; have z0 := HCN.out v hv; go_simp) ?_
  refine h_one 5 rfl (by kernel_rfl) (by kernel_rfl) (fun K hK => ?_)
  refine wp_tdel _ _ 46 rfl 54 Try.underlying46 b N FM rfl HMD.out s rfl hs ?_
  intro w6 hm6 hg6
  have HM6 := Lib.hid hm6
  have HG6 := Lib.hid (grown_none HGD.out hg6)
  refine hK _ _ (fun j h1 h2 => (hg6.block j (Nat.lt_of_lt_of_le h1 HGD.out.size) (fun e => h2 (Option.some.inj e))).trans (ONLY.out j h1 h2)) ?_
  clear hK K hm6 hg6
  refine wpAnyH_done (by kernel_rfl) ?_ _
  go_simp
  go_wp2
  go_end0
  exact ⟨rfl, _, files_del HF.out HM6.out HG6.out, (HG6.out.block p HX.out.lt (fun e => HPB.out (Option.some.inj e))).trans HX.out, (Turn.refl _ _).grown HG6.out (fun i hi _ => .inr (.inl (Option.some.inj hi).symm)), fun j hj => .inl (blk_del hj)⟩

/-- A file whose row is one that it has, or had under another name. -/
theorem files_moved {w w1 w2 : World} {base b N : Nat} {fl fl1 : List UInt8 → Option Fl} {f f1 : List UInt8 → Option Value} {s0 s : List UInt8} {x : Fl} {A : Option Addr} {c q : Nat} (h : FilesF w base b N fl f) (hfx : fl s0 = some x) (hF : f s0 = some (fval A x.body.length c x.safe)) (h1 : FilesF w1 base b N fl1 f1)
    (hsub : ∀ u v, u ≠ s → f1 u = some v → f u = some v ∧ u ≠ s0) (ho : w1.ownsRow base 5 1 (.slice A x.body.length c) x.body.length (x.body.map bv)) (hm : TMap w2 b (N + 1) (fput f1 s (fval A x.body.length c q))) (hg : w1.grownBy w2 (some b)) :
    FilesF w2 base b (N + 1) (flput fl1 s (some ⟨x.body, q⟩)) (fput f1 s (fval A x.body.length c q)) := by
  obtain ⟨A9, c9, e9, hA9, _⟩ := h.2.2.1 s0 x hfx
  have e9b : A9 = A ∧ c9 = c := by
    rw [hF] at e9
    have e3 := Option.some.inj e9
    unfold fval at e3
    simp only [Value.agg.injEq, Array.mk.injEq, List.cons.injEq, and_true, Value.slice.injEq, true_and] at e3
    exact ⟨e3.1.symm, e3.2.symm⟩
  refine files_put (x := ⟨x.body, q⟩) h1 (fun _ _ _ _ _ _ _ ho' => ho') (by rw [← e9b.1, ← e9b.2]; exact hA9) ho (fun u A' n' c' q' hu e => ?_) h1.1.heap hm hg
  obtain ⟨e2, hne⟩ := hsub u _ hu e
  exact h.2.2.2 s0 u A _ c _ A' n' c' q' (Ne.symm hne) hF e2

end Go.Proofs.Ytfgonihpakcbbaa
