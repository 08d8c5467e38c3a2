/- The walk of bytes.Clone, and words for texts. -/
import Derived.WalkKit
import Derived.Lib.Hide
import Derived.Shelf.Abstract
import Derived.OwnWalkIn
import Derived.Maps.AppendAt
import Derived.Test.YtfdncdejjlcgpaaProg
import Derived.Test.YtfdncdejjlcgpaaS
import Derived.Test.YtfdncdejjlcgpaaK2
import Derived.Test.YtfdncdejjlcgpaaBa
import Derived.Lib.AppendStr
namespace Go.Proofs.Ytfdncdejjlcgpaa
open Go.RowKit Go.Shelf
attribute [local go_sem] Oper.semAt_some

theorem info5k : (Try.prog.info? 5).map (fun i => (i.zero, i.size, i.bytes)) = some (some (.int .u8 0), 1, 1) := by kernel_rfl

/-- A text as a value of Go. -/
def sv (t : List UInt8) : Value := .string (tx t)

theorem strCells_tx (t : List UInt8) : Lib.strCells (tx t) = t.map bv := by simp [Lib.strCells, tx, bv]

set_option maxRecDepth 100000 in
set_option maxHeartbeats 400000 in
theorem clone_some (ad : Addr) (n c B : Nat) (bs : List UInt8) (hn : n ≤ 1073741824) (w : World) (hB : B ≤ w.heap.size) (hr : Reads w B 1 (some ad) n (bs.map bv)) :
    Calls Try.prog 76 #[.slice (some ad) n c] w fun e w' => ∃ v, e = .returned v ∧ w'.ownsRow w.heap.size 5 1 v n (bs.map bv) ∧ Below w.heap.size w w' := by
  obtain ⟨i0, hi, hz0, hz1, hz2⟩ := info_parts info5k
  have hown0 : (w.alloc (.cells #[] 5)).ownsRow w.heap.size 5 1 (.slice (some ⟨w.heap.size, 0, none⟩) 0 0) 0 [] :=
    ⟨rfl, .inr ⟨w.heap.size, 0, #[], rfl, Nat.le_refl _, by show (w.heap.push _)[w.heap.size]? = _; simp, Nat.le_refl _, by unfold maxLen; omega, rfl, rfl⟩⟩
  have he : ∀ w : World, (binOp .eql 44 (.slice (some ad) n c) (.slice none 0 0)).run Try.prog w = .ok (.bool false) w := fun _ => rfl
  have hone := bv_one bs
  obtain ⟨xs, hx⟩ : ∃ xs, xs = bs.map bv := ⟨_, rfl⟩
  rw [← hx] at hr hone ⊢
  clear hx
  go_enter Try.func76, Try.ntmps76
  go_wp2_with (first
    | (at_builtin; refine wpList_append_own _ rfl (.tmp 5) (.tmp 6) 44 rfl w.heap.size 5 i0 (.int .u8 0) 1 1 Try.underlying44 hi hz0 hz1 hz2 rfl (by decide) _ _ _ rfl hown0 ad n c xs rfl hr.1 ?c1 hone (by unfold maxLen; omega) (by omega) (by simp) ?_))
  case c1 =>
    intro j u hu
    have hr' := hr.alloc (o := .cells #[] 5) (w := w) hB
    by_cases h0 : 0 < n
    · obtain ⟨ad', e, _, hc⟩ := hr'.2 h0
      cases e
      exact hc j u hu
    · have hl := hr.1
      have := (List.getElem?_eq_some_iff.1 hu).1
      omega
  intro v' w1 hown' hgrow hnil
  go_wp2
  go_ret
  exact ⟨_, rfl, by simpa using hown', ((Below.refl _ _).alloc (Nat.le_refl _) _).grown hgrow (by simp) (fun k hk => by simp [Value.ownBlock] at hk; omega)⟩

set_option maxRecDepth 100000 in
set_option maxHeartbeats 400000 in
theorem clone_none (c : Nat) (w : World) :
    Calls Try.prog 76 #[.slice none 0 c] w fun e w' => e = .returned (.slice none 0 0) ∧ w = w' := by
  have he : ∀ w : World, (binOp .eql 44 (.slice none 0 c) (.slice none 0 0)).run Try.prog w = .ok (.bool true) w := fun _ => rfl
  go_enter Try.func76, Try.ntmps76
  go_wp2
  go_ret
  exact ⟨rfl, rfl⟩

/-- bytes.Clone: the same bytes, in memory of the call's own. -/
theorem clone_any (A : Option Addr) (n c B : Nat) (bs : List UInt8) (hn : n ≤ 1073741824) (w : World) (hB : B ≤ w.heap.size) (hr : Reads w B 1 A n (bs.map bv)) :
    Calls Try.prog 76 #[.slice A n c] w fun e w' => ∃ v, e = .returned v ∧ w'.ownsRow w.heap.size 5 1 v n (bs.map bv) ∧ Below w.heap.size w w' := by
  cases A with
  | some ad => exact clone_some ad n c B bs hn w hB hr
  | none =>
    have h0 : n = 0 := by
      rcases Nat.eq_zero_or_pos n with h | h
      · exact h
      · obtain ⟨ad, e, _⟩ := hr.2 h
        cases e
    subst h0
    have hb : bs = [] := List.eq_nil_of_length_eq_zero (by have := hr.1; simpa using this)
    subst hb
    refine (clone_none c w).mono ?_
    rintro e w' ⟨rfl, rfl⟩
    exact ⟨_, rfl, ⟨rfl, .inl ⟨rfl, rfl⟩⟩, Below.refl _ _⟩

theorem text_at {ts : List (List UInt8)} {i : Nat} {u : Value} (h : (ts.map sv)[i]? = some u) : ∃ x, u = .string (tx x) ∧ ts[i]? = some x := by
  rw [List.getElem?_map] at h
  obtain ⟨x, hx, rfl⟩ := Option.map_eq_some_iff.1 h
  exact ⟨x, rfl, hx⟩

theorem reads_text (W : World) (e : TypeId) (t : List UInt8) : Reads (W.alloc (.cells #[sv t] e)) (W.heap.size + 1) 1 (some ⟨W.heap.size, 0, none⟩) 1 ([t].map sv) :=
  ⟨rfl, fun _ => ⟨_, rfl, by simp, fun j u hu => by
    cases j with
    | zero =>
      have hu' : sv t = u := by simpa using hu
      subst hu'
      simp [Addr.add]
    | succ j => simp at hu⟩⟩

end Go.Proofs.Ytfdncdejjlcgpaa
