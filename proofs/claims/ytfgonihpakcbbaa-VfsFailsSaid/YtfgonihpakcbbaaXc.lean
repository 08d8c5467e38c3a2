/- A map whose keys are texts, in memory, as a function. -/
import Derived.Maps.OwnSet
import Derived.Test.YtfgonihpakcbbaaProg
import Derived.Test.YtfgonihpakcbbaaS
import Derived.Test.YtfgonihpakcbbaaMw
namespace Go.Proofs.Ytfgonihpakcbbaa
open Go.RowKit Go.Maps Go.ChangeMaps Go.WideMaps
set_option maxRecDepth 100000

theorem xkey : Keyed Try.prog 9 := string_keyed Try.underlying9
theorem xkeyOf {s : List UInt8} (h : s.length ≤ maxLen) : keyOf Try.prog 9 (.string (tx s)) = some (.string s) := by
  rw [keyOf_string_mk Try.underlying9 (by simpa [tx, ByteArray.size] using h)]
  simp [tx]
/-- An element as itself. -/
def hElem (v : Value) : Option (DataW Value × List MemPlace) := some (.held v, [])
theorem hElem_inv {v : Value} {d : DataW Value} {ps : List MemPlace} (h : hElem v = some (d, ps)) : d = .held v := by
  unfold hElem at h
  injection h with h
  injection h with h _
  exact h.symm
def MapF (D : DataW Value) (f : List UInt8 → Option Value) : Prop := ∀ u z, D.atKey (.string u) z = match f u with | some x => .held x | none => z
theorem MapF.has {D : DataW Value} {f : List UInt8 → Option Value} (h : MapF D f) (u : List UInt8) : Maps.has D (.string u) = (f u).isSome := by
  have h1 := h u
  cases e : f u with
  | none => simp only [e] at h1; exact Maps.has_false_of_atKey h1
  | some x => simp only [e] at h1; exact Maps.has_true_of_atKey h1
/-- A function with another value at one text. -/
def fput (f : List UInt8 → Option Value) (s : List UInt8) (v : Value) : List UInt8 → Option Value := fun u => if u = s then some v else f u
theorem MapF.put {D : DataW Value} {f : List UInt8 → Option Value} (h : MapF D f) (hD : Maps.IsMap D) (s : List UInt8) (v : Value) : MapF (D.put (.string s) (.held v)) (fput f s v) := by
  intro u z
  unfold fput
  by_cases e : u = s
  · subst e
    rw [if_pos rfl]
    exact Maps.atKey_put_same hD (show WideAt.IsKeyLit (.string u) from trivial) _ _
  · rw [if_neg e, Maps.atKey_put_other (fun e2 => e (by injection e2))]
    exact h u z
/-- A map in memory that is a function. -/
def TMap (w : World) (b N : Nat) (f : List UInt8 → Option Value) : Prop := ∃ D : DataW Value, w.ownsMap Try.prog 9 hElem b N D ∧ MapF D f
theorem TMap.same {w : World} {b N : Nat} {f g : List UInt8 → Option Value} (h : TMap w b N f) (e : ∀ u, f u = g u) : TMap w b N g := by
  have : f = g := funext e
  rw [← this]; exact h
theorem TMap.kept {w w' : World} {b N : Nat} {f : List UInt8 → Option Value} {row : Option Nat} (h : TMap w b N f) (hg : w.grownBy w' row) (hne : some b ≠ row) : TMap w' b N f := by
  obtain ⟨D, h1, h2⟩ := h
  exact ⟨D, h1.kept hg hne, h2⟩
theorem TMap.below {w w' : World} {b N : Nat} {f : List UInt8 → Option Value} (h : TMap w b N f) (hb : Below w.heap.size w w') : TMap w' b N f := by
  obtain ⟨D, h1, h2⟩ := h
  have hl := h1.lt
  obtain ⟨es, clock, hq, r⟩ := h1
  exact ⟨D, ⟨es, clock, (hb.block b hl).trans hq, r⟩, h2⟩
theorem TMap.at_heap {w w' : World} {b N : Nat} {f : List UInt8 → Option Value} (h : TMap w b N f) (hb : w'.heap[b]? = w.heap[b]?) : TMap w' b N f := by
  obtain ⟨D, ⟨es, clock, hq, r⟩, h2⟩ := h
  exact ⟨D, ⟨es, clock, hb.trans hq, r⟩, h2⟩
theorem TMap.lt {w : World} {b N : Nat} {f : List UInt8 → Option Value} (h : TMap w b N f) : b < w.heap.size := by
  obtain ⟨D, h1, _⟩ := h
  exact h1.lt
theorem TMap.mono {w : World} {b N N' : Nat} {f : List UInt8 → Option Value} (h : TMap w b N f) (hN : N ≤ N') : TMap w b N' f := by
  obtain ⟨D, h1, h2⟩ := h
  exact ⟨D, h1.mono hN, h2⟩
theorem tmap_start (w : World) : TMap (w.alloc (.map #[] 0)) w.heap.size 0 (fun _ => none) := ⟨.map [], World.ownsMap_made w _ _ _, fun _ _ => rfl⟩
/-- What is looked up. -/
theorem TMap.look {w : World} {b N : Nat} {f : List UInt8 → Option Value} (h : TMap w b N f) {s : List UInt8} (hs : s.length ≤ maxLen) {t e : TypeId} (ht : Try.prog.underlying t = some (.map 9 e)) {z : Value} (hz : (zeroValue e).run Try.prog w = .ok z w) :
    (Instr.lookup t (.map (some b)) (.string (tx s)) false).run Try.prog w = .ok ((f s).getD z) w := by
  obtain ⟨D, h1, h2⟩ := h
  obtain ⟨v, ps, hr, hv⟩ := h1.lookup xkey ht hz (zd := .held z) (zp := []) rfl (xkeyOf hs)
  rw [hr]
  have := hElem_inv hv
  rw [h2] at this
  cases e : f s with
  | none => rw [e] at this; simp only at this; injection this with this; rw [this]; rfl
  | some x => rw [e] at this; simp only at this; injection this with this; rw [this]; rfl
theorem TMap.look2 {w : World} {b N : Nat} {f : List UInt8 → Option Value} (h : TMap w b N f) {s : List UInt8} (hs : s.length ≤ maxLen) {t e : TypeId} (ht : Try.prog.underlying t = some (.map 9 e)) {z : Value} (hz : (zeroValue e).run Try.prog w = .ok z w) :
    (Instr.lookup t (.map (some b)) (.string (tx s)) true).run Try.prog w = .ok (.tuple #[(f s).getD z, .bool (f s).isSome]) w := by
  obtain ⟨D, h1, h2⟩ := h
  obtain ⟨v, ps, hr, hv⟩ := h1.look_ok xkey ht hz (zd := .held z) (zp := []) rfl (xkeyOf hs)
  rw [hr, h2.has]
  have := hElem_inv hv
  rw [h2] at this
  cases e : f s with
  | none => rw [e] at this; simp only at this; injection this with this; rw [this]; rfl
  | some x => rw [e] at this; simp only at this; injection this with this; rw [this]; rfl
/-- 'm[k] = v', at the operation. -/
theorem wpList_tput (w : World) {ops : Array Oper} {rest : List Oper} {o : Oper} {a : Act} {Q : Exit → Act → World → Prop}
    (hg : o.guard = none) (m x v : Operand) (t : TypeId) (hop : o.op = Op.mapUpdate t m x v) (e : TypeId) (ht : Try.prog.underlying t = some (.map 9 e)) (b N : Nat) (f : List UInt8 → Option Value) (hm : a.eval m = .map (some b)) (h : TMap w b N f) (hn : N < maxLen)
    (s : List UInt8) (val : Value) (hx : a.eval x = .string (tx s)) (hv : a.eval v = val) (hs : s.length ≤ maxLen)
    (hK : ∀ w', TMap w' b (N + 1) (fput f s val) → w.grownBy w' (some b) → wpList Try.prog ops Q rest (a.put o.dst undef) w') :
    wpList Try.prog ops Q (o :: rest) a w := by
  obtain ⟨D, h1, h2⟩ := h
  exact wpList_mapUpdate_own w hg m x v t hop 9 e xkey ht hElem b N D hm h1 hn (.string (tx s)) val (.string s) hx hv (xkeyOf hs) (.held val) [] rfl (fun w' q1 q2 => hK w' ⟨_, q1, h2.put h1.isMap s val⟩ q2)

/-- An element of a map's literal, at the operation. -/
theorem wpList_tins (w : World) {ops : Array Oper} {rest : List Oper} {o : Oper} {a : Act} {Q : Exit → Act → World → Prop}
    (hg : o.guard = none) (m x v : Operand) (t : TypeId) (hop : o.op = Op.insert t m x v) (e : TypeId) (ht : Try.prog.underlying t = some (.map 9 e)) (b N : Nat) (f : List UInt8 → Option Value) (hm : a.eval m = .map (some b)) (h : TMap w b N f) (hn : N < maxLen)
    (s : List UInt8) (val : Value) (hx : a.eval x = .string (tx s)) (hv : a.eval v = val) (hs : s.length ≤ maxLen)
    (hK : ∀ w', TMap w' b (N + 1) (fput f s val) → w.grownBy w' (some b) → wpList Try.prog ops Q rest (a.put o.dst undef) w') :
    wpList Try.prog ops Q (o :: rest) a w := by
  obtain ⟨D, h1, h2⟩ := h
  refine wpList_plain hg fun K' hK' => ?_
  obtain ⟨w', hrun, r1, r2⟩ := h1.update xkey ht hn (xkeyOf hs) (val := val) (d := .held val) (ps := []) rfl
  unfold Oper.wp
  simp [execOp, hop, hm, hx, hv, hrun, Result.andThen]
  exact hK' _ _ (hK w' ⟨_, r1, h2.put h1.isMap s val⟩ r2)

/-- A set of texts. -/
def setF (S : List (List UInt8)) : List UInt8 → Option Value := fun u => if u ∈ S then some (.bool true) else none
theorem setF_put (S : List (List UInt8)) (s : List UInt8) (u : List UInt8) : fput (setF S) s (.bool true) u = setF (S ++ [s]) u := by
  unfold fput setF
  by_cases h : u = s
  · subst h; simp
  · simp [h]
theorem zeroB (w : World) : (zeroValue 4).run Try.prog w = .ok (.bool false) w := by kernel_rfl
theorem zeroI (w : World) : (zeroValue 3).run Try.prog w = .ok (.int .i64 0) w := by kernel_rfl

end Go.Proofs.Ytfgonihpakcbbaa
