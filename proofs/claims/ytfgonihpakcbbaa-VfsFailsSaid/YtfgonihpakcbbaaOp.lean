/- Append where it is down; what a crash leaves: mathematics. -/
import Derived.Test.YtfgonihpakcbbaaOo
namespace Go.Proofs.Ytfgonihpakcbbaa
open Go.RowKit Go.Maps Go.ChangeMaps Go.WideMaps Go.Sort

set_option maxRecDepth 100000 in
set_option maxHeartbeats 1000000 in
theorem append_down (p b : Nat) (f g : Bool × Int) (s : List UInt8) (Ab : Option Addr) (nb cb : Nat) (w : World) (hx : FsBox w p b true f g) :
    Calls Try.prog 19 #[.pointer (some ⟨p, 0, none⟩), .string (tx s), .slice Ab nb cb] w fun e w' => e = .returned (.int .i64 7) ∧ Below w.heap.size w w' := by
  have z0 : (w.alloc (.cells #[.pointer (some ⟨p, 0, none⟩)] 26)).heap.size = w.heap.size + 1 := by simp only [World.size_alloc]
  have z1 : ((w.alloc (.cells #[.pointer (some ⟨p, 0, none⟩)] 26)).alloc (.cells #[.string (tx s)] 9)).heap.size = w.heap.size + 2 := by simp only [World.size_alloc, Nat.add_assoc, Nat.reduceAdd]
  have z2 : (((w.alloc (.cells #[.pointer (some ⟨p, 0, none⟩)] 26)).alloc (.cells #[.string (tx s)] 9)).alloc (.cells #[.slice Ab nb cb] 28)).heap.size = w.heap.size + 3 := by simp only [World.size_alloc, Nat.add_assoc, Nat.reduceAdd]
  have HA : Hid (Below w.heap.size w (((w.alloc (.cells #[.pointer (some ⟨p, 0, none⟩)] 26)).alloc (.cells #[.string (tx s)] 9)).alloc (.cells #[.slice Ab nb cb] 28))) := (((Below.refl _ _).alloc (by first | exact Nat.le_refl _ | (rw [z0]; omega)) _).alloc (by first | exact Nat.le_refl _ | (rw [z0]; omega)) _).alloc (by first | exact Nat.le_refl _ | (rw [z1]; omega)) _
  have e0 := one_new w (.cells #[.pointer (some ⟨p, 0, none⟩)] 26)
  have e0 := (Below.heap_alloc (w.alloc (.cells #[.pointer (some ⟨p, 0, none⟩)] 26)) (.cells #[.string (tx s)] 9) _ (by rw [z0]; omega)).trans e0
  have e0 := (Below.heap_alloc ((w.alloc (.cells #[.pointer (some ⟨p, 0, none⟩)] 26)).alloc (.cells #[.string (tx s)] 9)) (.cells #[.slice Ab nb cb] 28) _ (by rw [z1]; omega)).trans e0
  have e1 := one_new (w.alloc (.cells #[.pointer (some ⟨p, 0, none⟩)] 26)) (.cells #[.string (tx s)] 9)
  rw [z0] at e1
  have e1 := (Below.heap_alloc ((w.alloc (.cells #[.pointer (some ⟨p, 0, none⟩)] 26)).alloc (.cells #[.string (tx s)] 9)) (.cells #[.slice Ab nb cb] 28) _ (by rw [z1]; omega)).trans e1
  have e2 := one_new ((w.alloc (.cells #[.pointer (some ⟨p, 0, none⟩)] 26)).alloc (.cells #[.string (tx s)] 9)) (.cells #[.slice Ab nb cb] 28)
  rw [z1] at e2
  have hx1 := hx.below HA.out
  have q0 := at_cell (i := 0) e0 rfl
  have q1 := at_cell (i := 1) hx1 rfl
  clear hx hx1 e0 e1 e2 z0 z1 z2
  go_enter Try.func19, Try.ntmps19
  go_wp2
  go_ret
  exact ⟨rfl, HA.out⟩

/-- What a crash leaves of one file, and of what is to be kept. -/
def crOne (x : Fl) (ks : List Int) : Fl × List Int :=
  if x.safe < x.body.length then
    match ks with
    | [] => (⟨x.body.take x.safe, x.safe⟩, [])
    | k :: ks => (⟨x.body.take (x.safe + min k.toNat (x.body.length - x.safe)), x.safe + min k.toNat (x.body.length - x.safe)⟩, ks)
  else (⟨x.body.take x.safe, x.safe⟩, ks)
/-- .. of the files of some names. -/
def crN : List (List UInt8) → (List UInt8 → Option Fl) × List Int → (List UInt8 → Option Fl) × List Int
  | [], st => st
  | s :: ns, st => match st.1 s with
    | none => crN ns st
    | some x => crN ns (flput st.1 s (some (crOne x st.2).1), (crOne x st.2).2)
theorem crN_app : ∀ (a b : List (List UInt8)) (st : (List UInt8 → Option Fl) × List Int), crN (a ++ b) st = crN b (crN a st)
  | [], _, _ => rfl
  | s :: a, b, st => by
    show (match st.1 s with | none => _ | some x => _) = crN b (match st.1 s with | none => _ | some x => _)
    cases st.1 s with
    | none => exact crN_app a b st
    | some x => exact crN_app a b _
theorem crN_snoc {ns : List (List UInt8)} {i : Nat} {s : List UInt8} {x : Fl} (h : ns[i]? = some s) (st : (List UInt8 → Option Fl) × List Int) (hx : (crN (ns.take i) st).1 s = some x) :
    crN (ns.take (i + 1)) st = (flput (crN (ns.take i) st).1 s (some (crOne x (crN (ns.take i) st).2).1), (crOne x (crN (ns.take i) st).2).2) := by
  rw [List.take_add_one, h]
  show crN (ns.take i ++ [s]) st = _
  rw [crN_app]
  show (match (crN (ns.take i) st).1 s with | none => _ | some x => _) = _
  rw [hx]
  rfl
/-- A name that has not come yet stands as it did. -/
theorem crN_other {u : List UInt8} : ∀ (ns : List (List UInt8)) (st : (List UInt8 → Option Fl) × List Int), u ∉ ns → (crN ns st).1 u = st.1 u
  | [], _, _ => rfl
  | s :: ns, st, h => by
    have hne : u ≠ s := fun e => h (by simp [e])
    have hn : u ∉ ns := fun e => h (List.mem_cons_of_mem _ e)
    show ((match st.1 s with | none => crN ns st | some x => crN ns (flput st.1 s (some (crOne x st.2).1), (crOne x st.2).2)).1) u = _
    cases st.1 s with
    | none => exact crN_other ns st hn
    | some x =>
      rw [crN_other ns _ hn]
      unfold flput
      simp only
      rw [if_neg hne]
/-- One file behind a crash: a first part, all of it safe. -/
theorem crOne_part (x : Fl) (ks : List Int) (h : x.safe ≤ x.body.length) : ∃ m, x.safe ≤ m ∧ m ≤ x.body.length ∧ (crOne x ks).1 = ⟨x.body.take m, m⟩ := by
  unfold crOne
  by_cases hl : x.safe < x.body.length
  · rw [if_pos hl]
    cases ks with
    | nil => exact ⟨x.safe, Nat.le_refl _, h, rfl⟩
    | cons k ks => exact ⟨_, by omega, by omega, rfl⟩
  · rw [if_neg hl]
    exact ⟨x.safe, Nat.le_refl _, h, rfl⟩
/-- Each file behind a crash. -/
theorem crN_part : ∀ (ns : List (List UInt8)) (st : (List UInt8 → Option Fl) × List Int), ns.Nodup → ∀ u, u ∈ ns → ∀ x, st.1 u = some x → x.safe ≤ x.body.length → ∃ m, x.safe ≤ m ∧ m ≤ x.body.length ∧ (crN ns st).1 u = some ⟨x.body.take m, m⟩
  | [], _, _, u, hu, _, _, _ => by cases hu
  | s :: ns, st, hn, u, hu, x, hx, hs => by
    obtain ⟨hs1, hn1⟩ := List.nodup_cons.1 hn
    by_cases e : u = s
    · subst e
      obtain ⟨m, h1, h2, h3⟩ := crOne_part x st.2 hs
      refine ⟨m, h1, h2, ?_⟩
      show ((match st.1 u with | none => crN ns st | some x => crN ns (flput st.1 u (some (crOne x st.2).1), (crOne x st.2).2)).1) u = _
      rw [hx]
      show (crN ns _).1 u = _
      rw [crN_other ns _ hs1]
      unfold flput
      simp only
      rw [if_pos trivial, h3]
    · have hu2 : u ∈ ns := by
        rcases List.mem_cons.1 hu with h | h
        · exact absurd h e
        · exact h
      show ∃ m, _ ∧ _ ∧ ((match st.1 s with | none => crN ns st | some x => crN ns (flput st.1 s (some (crOne x st.2).1), (crOne x st.2).2)).1) u = _
      cases st.1 s with
      | none => exact crN_part ns st hn1 u hu2 x hx hs
      | some y => exact crN_part ns _ hn1 u hu2 x (by unfold flput; simp only; rw [if_neg e]; exact hx) hs

end Go.Proofs.Ytfgonihpakcbbaa
