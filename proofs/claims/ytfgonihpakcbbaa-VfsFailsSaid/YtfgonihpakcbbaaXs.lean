/- Sets of texts in memory, and ranges over them. -/
import Derived.Maps.RangeWalk
import Derived.Sort.KeysCollected
import Derived.Test.YtfgonihpakcbbaaXc
namespace Go.Proofs.Ytfgonihpakcbbaa
open Go.RowKit Go.Maps Go.ChangeMaps Go.WideMaps Go.Sort
set_option maxRecDepth 100000

/-- How many entries a map has, read off the world. -/
def msz (w : World) (b : Nat) : Nat := match w.heap[b]? with | some (.map es _) => es.size | _ => 0
theorem msz_own {w : World} {b n : Nat} {D : DataW Value} (h : w.ownsMap Try.prog 9 hElem b n D) : msz w b = Maps.size D := by
  obtain ⟨es, clock, hb, _, _, rfl⟩ := h
  unfold msz
  rw [hb]
  simp [Maps.size, length_sorted]
/-- A set of texts in memory. -/
def TSet (w : World) (b : Nat) (S : List (List UInt8)) : Prop := ∃ D : DataW Value, w.ownsMap Try.prog 9 hElem b S.length D ∧ MapF D (setF S) ∧ Maps.size D = S.length ∧ S.Nodup
theorem setF_has (S : List (List UInt8)) (u : List UInt8) : (setF S u).isSome = decide (u ∈ S) := by
  unfold setF
  by_cases h : u ∈ S <;> simp [h]
theorem setF_get (S : List (List UInt8)) (u : List UInt8) : (setF S u).getD (.bool false) = .bool (decide (u ∈ S)) := by
  unfold setF
  by_cases h : u ∈ S <;> simp [h]
theorem TSet.map {w : World} {b : Nat} {S : List (List UInt8)} (h : TSet w b S) : TMap w b S.length (setF S) := by
  obtain ⟨D, h1, h2, _⟩ := h
  exact ⟨D, h1, h2⟩
theorem TSet.nodup {w : World} {b : Nat} {S : List (List UInt8)} (h : TSet w b S) : S.Nodup := by
  obtain ⟨_, _, _, _, h4⟩ := h
  exact h4
theorem TSet.msz {w : World} {b : Nat} {S : List (List UInt8)} (h : TSet w b S) : msz w b = S.length := by
  obtain ⟨D, h1, _, h3, _⟩ := h
  rw [msz_own h1, h3]
theorem TSet.lt {w : World} {b : Nat} {S : List (List UInt8)} (h : TSet w b S) : b < w.heap.size := h.map.lt
theorem TSet.kept {w w' : World} {b : Nat} {S : List (List UInt8)} {row : Option Nat} (h : TSet w b S) (hg : w.grownBy w' row) (hne : some b ≠ row) : TSet w' b S := by
  obtain ⟨D, h1, h2⟩ := h
  exact ⟨D, h1.kept hg hne, h2⟩
theorem TSet.alloc {w : World} {b : Nat} {S : List (List UInt8)} (h : TSet w b S) (o : Obj) : TSet (w.alloc o) b S := h.kept (World.grownBy_alloc w o none) (by simp)
theorem TSet.at_heap {w w' : World} {b : Nat} {S : List (List UInt8)} (h : TSet w b S) (hb : w'.heap[b]? = w.heap[b]?) : TSet w' b S := by
  obtain ⟨D, ⟨es, clock, hq, r⟩, h2⟩ := h
  exact ⟨D, ⟨es, clock, hb.trans hq, r⟩, h2⟩
theorem tset_start (w : World) : TSet (w.alloc (.map #[] 0)) w.heap.size [] :=
  ⟨.map [], World.ownsMap_made w _ _ _, fun _ _ => rfl, rfl, List.nodup_nil⟩
theorem tset_put {w' : World} {b : Nat} {S : List (List UInt8)} {s : List UInt8} {D : DataW Value} (hD : Maps.size D = S.length) (hs : s ∉ S) (hn : S.Nodup) (h1 : w'.ownsMap Try.prog 9 hElem b (S.length + 1) (D.put (.string s) (.held (.bool true)))) (h2 : MapF D (setF S)) (ht : Tidy D) (hm : Maps.IsMap D) : TSet w' b (S ++ [s]) := by
  refine ⟨_, by simpa using h1, ?_, ?_, ?_⟩
  · have h3 := h2.put hm s (.bool true)
    intro u z
    rw [h3 u z, setF_put]
  · rw [Maps.size_put ht, h2.has, setF_has, hD]
    simp [hs]
  · rw [List.nodup_append]
    exact ⟨hn, by simp, fun a ha b hb e => by simp at hb; subst hb; subst e; exact hs ha⟩

/-- 'm[s] = true', a new one, at the operation. -/
theorem wpList_sput (w : World) {ops : Array Oper} {rest : List Oper} {o : Oper} {a : Act} {Q : Exit → Act → World → Prop}
    (hg : o.guard = none) (m x v : Operand) (t : TypeId) (hop : o.op = Op.mapUpdate t m x v) (e : TypeId) (ht : Try.prog.underlying t = some (.map 9 e)) (b : Nat) (S : List (List UInt8)) (hm : a.eval m = .map (some b)) (h : TSet w b S) (hn : S.length < maxLen)
    (s : List UInt8) (hx : a.eval x = .string (tx s)) (hv : a.eval v = .bool true) (hs : s.length ≤ maxLen) (hne : s ∉ S)
    (hK : ∀ w', TSet w' b (S ++ [s]) → w.grownBy w' (some b) → wpList Try.prog ops Q rest (a.put o.dst undef) w') :
    wpList Try.prog ops Q (o :: rest) a w := by
  obtain ⟨D, h1, h2, h3, h4⟩ := h
  exact wpList_mapUpdate_own w hg m x v t hop 9 e xkey ht hElem b S.length D hm h1 hn (.string (tx s)) (.bool true) (.string s) hx hv (xkeyOf hs) (.held (.bool true)) [] rfl (fun w' q1 q2 => hK w' (tset_put h3 hne h4 q1 h2 (h1.tidy xkey) h1.isMap) q2)
/-- An element of a set's literal, at the operation. -/
theorem wpList_sins (w : World) {ops : Array Oper} {rest : List Oper} {o : Oper} {a : Act} {Q : Exit → Act → World → Prop}
    (hg : o.guard = none) (m x v : Operand) (t : TypeId) (hop : o.op = Op.insert t m x v) (e : TypeId) (ht : Try.prog.underlying t = some (.map 9 e)) (b : Nat) (S : List (List UInt8)) (hm : a.eval m = .map (some b)) (h : TSet w b S) (hn : S.length < maxLen)
    (s : List UInt8) (hx : a.eval x = .string (tx s)) (hv : a.eval v = .bool true) (hs : s.length ≤ maxLen) (hne : s ∉ S)
    (hK : ∀ w', TSet w' b (S ++ [s]) → w.grownBy w' (some b) → wpList Try.prog ops Q rest (a.put o.dst undef) w') :
    wpList Try.prog ops Q (o :: rest) a w := by
  obtain ⟨D, h1, h2, h3, h4⟩ := h
  refine wpList_plain hg fun K' hK' => ?_
  obtain ⟨w', hrun, r1, r2⟩ := h1.update xkey ht hn (xkeyOf hs) (val := .bool true) (d := .held (.bool true)) (ps := []) rfl
  unfold Oper.wp
  simp [execOp, hop, hm, hx, hv, hrun, Result.andThen]
  exact hK' _ _ (hK w' (tset_put h3 hne h4 r1 h2 (h1.tidy xkey) h1.isMap) r2)
/-- How many they are, at the operation. -/
theorem wpList_slen (w : World) {ops : Array Oper} {rest : List Oper} {o : Oper} {a : Act} {Q : Exit → Act → World → Prop}
    (hg : o.guard = none) (m : Operand) (t : TypeId) (hop : o.op = Op.call { callee := Callee.builtin Builtin.len, args := #[m], argTypes := #[t] }) (e : TypeId) (ht : Try.prog.underlying t = some (.map 9 e)) (b : Nat) (S : List (List UInt8)) (hm : a.eval m = .map (some b)) (h : TSet w b S)
    (hK : wpList Try.prog ops Q rest (a.put o.dst (.int .i64 (S.length : Int))) w) :
    wpList Try.prog ops Q (o :: rest) a w := by
  obtain ⟨D, h1, h2, h3, h4⟩ := h
  rw [← h3] at hK
  exact wpList_len_own w hg m t hop 9 e ht hElem b S.length D hm h1 hK

/-- A range over a set, under way: what has come. -/
def SRange (w : World) (b r : Nat) (S done : List (List UInt8)) (cnt : Nat) : Prop := ∃ (D : DataW Value) (left : Lit → Bool), w.ranges Try.prog 9 hElem b r S.length D left cnt ∧ MapF D (setF S) ∧ Maps.size D = S.length ∧ S.Nodup ∧ Collected D left done
theorem SRange.kept {w w' : World} {b r cnt : Nat} {S done : List (List UInt8)} {row : Option Nat} (h : SRange w b r S done cnt) (hg : w.grownBy w' row) (hb : some b ≠ row) (hr : some r ≠ row) : SRange w' b r S done cnt := by
  obtain ⟨D, left, h1, h2⟩ := h
  exact ⟨D, left, h1.kept hg hb hr, h2⟩
theorem SRange.left_eq {w : World} {b r cnt : Nat} {S done : List (List UInt8)} (h : SRange w b r S done cnt) : w.rangeLeft b r = cnt := by
  obtain ⟨D, left, h1, _⟩ := h
  exact h1.left_eq
theorem SRange.set {w : World} {b r cnt : Nat} {S done : List (List UInt8)} (h : SRange w b r S done cnt) : TSet w b S := by
  obtain ⟨D, left, h1, h2, h3, h4, _⟩ := h
  exact ⟨D, h1.owns, h2, h3, h4⟩
/-- 'range m', at the operation. -/
theorem wpList_srange (w : World) {ops : Array Oper} {rest : List Oper} {o : Oper} {a : Act} {Q : Exit → Act → World → Prop}
    (hg : o.guard = none) (m : Operand) (t : TypeId) (hop : o.op = Op.range t m) (e : TypeId) (ht : Try.prog.underlying t = some (.map 9 e)) (b : Nat) (S : List (List UInt8)) (hm : a.eval m = .map (some b)) (h : TSet w b S)
    (hK : ∀ w' cnt, SRange w' b w.heap.size S [] cnt → w.grownBy w' none → w'.heap.size = w.heap.size + 1 → wpList Try.prog ops Q rest (a.put o.dst (.pointer (some ⟨w.heap.size, 0, none⟩))) w') :
    wpList Try.prog ops Q (o :: rest) a w := by
  obtain ⟨D, h1, h2, h3, h4⟩ := h
  exact wpList_range_own w hg m t hop 9 e xkey ht hElem b S.length D hm h1 (fun w' q1 q2 q3 => hK w' _ ⟨D, _, q1, h2, h3, h4, Collected.start D⟩ q2 q3)
/-- The next one, at the operation. -/
theorem wpList_snext (w : World) {ops : Array Oper} {rest : List Oper} {o : Oper} {a : Act} {Q : Exit → Act → World → Prop}
    (hg : o.guard = none) (it : Operand) (hop : o.op = Op.next it false) (b r cnt : Nat) (S done : List (List UInt8)) (hit : a.eval it = .pointer (some ⟨r, 0, none⟩)) (h : SRange w b r S done cnt)
    (hDone : (∀ u ∈ S, u ∈ done) → wpList Try.prog ops Q rest (a.put o.dst (.tuple #[.bool false])) w)
    (hMore : ∀ (s : List UInt8) (c : Value) (w' : World) (cnt' : Nat), s ∈ S → s.length ≤ maxLen → SRange w' b r S (done ++ [s]) cnt' → cnt' < cnt → w.grownBy w' (some r) → w'.heap.size = w.heap.size → (Instr.entry (.pointer (some ⟨r, 0, none⟩))).run Try.prog w' = .ok (.tuple #[.string (tx s), c]) w' → wpList Try.prog ops Q rest (a.put o.dst (.tuple #[.bool true, .string (tx s), c])) w') :
    wpList Try.prog ops Q (o :: rest) a w := by
  obtain ⟨D, left, h1, h2, h3, h4, h5⟩ := h
  refine wpList_next_ranges w hg it hop 9 xkey hElem (fun s : List UInt8 => .string (tx s)) (fun v : Value => v) (fun key kl hk => by obtain ⟨x, hx, _⟩ := Maps.keyOf_str Try.underlying9 hk; exact ⟨x, hx⟩) (fun v y _ => ⟨v, rfl⟩) b r S.length D left cnt hit h1 ?_ ?_
  · intro _ hl
    refine hDone fun u hu => (h5.2 u).2 ⟨?_, hl _⟩
    rw [h2.has, setF_has]
    exact decide_eq_true hu
  · intro s c kl y w' cnt' hkey hlk hv hat hrg hlt hgr hsz hen
    obtain ⟨x, hx, rfl, hxl⟩ := Maps.keyOf_str Try.underlying9 hkey
    obtain rfl : s = x := encStr_inj (x := s) (y := x) hx
    have hin : s ∈ S := by
      have := has_true_of_atKey hat
      rw [h2.has, setF_has] at this
      exact of_decide_eq_true this
    exact hMore s c w' cnt' hin hxl ⟨D, _, hrg, h2, h3, h4, h5.step hlk hat⟩ hlt hgr hsz hen

end Go.Proofs.Ytfgonihpakcbbaa
