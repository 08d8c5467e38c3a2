/- What is known of a name: the closure that reads the map through its variable. -/
import Derived.Test.YtacjiojfjkonkaaWr2
import Derived.Test.YtacjiojfjkonkaaXc
namespace Go.Proofs.Ytacjiojfjkonkaa
open Go.RowKit

theorem zeroQ (w : World) : (zeroValue 34).run Try.prog w = .ok (.int .u64 0) w := by kernel_rfl
/-- Contents of names, as a map's function. -/
def conF (l : List Stp) : List UInt8 → Option Value := fun u => if u ∈ l.map Stp.name then some (qv (givN l u l.length)) else none
theorem giv_none {l : List Stp} {s : List UInt8} : ∀ i, (∀ j x, j < i → l[j]? = some x → x.name ≠ s) → givN l s i = 0#64
  | 0, _ => rfl
  | i + 1, h => by
    cases hx : l[i]? with
    | none =>
      show (match l[i]? with | some x => _ | none => _) = _
      rw [hx]
      exact giv_none i (fun j x hj => h j x (by omega))
    | some x => rw [giv_no hx (h i x (by omega) hx)]; exact giv_none i (fun j x hj => h j x (by omega))
theorem giv_app {l : List Stp} {s : List UInt8} (r : List Stp) : ∀ i, i ≤ l.length → givN (l ++ r) s i = givN l s i
  | 0, _ => rfl
  | i + 1, h => by
    show (match (l ++ r)[i]? with | some x => _ | none => _) = (match l[i]? with | some x => _ | none => _)
    rw [List.getElem?_append_left (by omega), giv_app r i (by omega)]
theorem giv_snoc (l : List Stp) (x : Stp) (s : List UInt8) : givN (l ++ [x]) s (l ++ [x]).length = if x.name = s then x.con else givN l s l.length := by
  have hx : (l ++ [x])[l.length]? = some x := by simp
  rw [List.length_append, List.length_singleton]
  by_cases h : x.name = s
  · rw [giv_yes hx h, if_pos h]
  · rw [giv_no hx h, if_neg h, giv_app [x] l.length (Nat.le_refl _)]
theorem conF_put (l : List Stp) (x : Stp) (u : List UInt8) : fput (conF l) x.name (qv x.con) u = conF (l ++ [x]) u := by
  unfold fput conF
  rw [giv_snoc]
  by_cases h : u = x.name
  · subst h; simp
  · have h2 : ¬ x.name = u := fun e => h e.symm
    simp [h, h2]
theorem conF_get (l : List Stp) (u : List UInt8) : (conF l u).getD (.int .u64 0) = qv (givN l u l.length) := by
  unfold conF
  by_cases h : u ∈ l.map Stp.name
  · rw [if_pos h]; rfl
  · rw [if_neg h, giv_none l.length (fun j x hj hx e => h (List.mem_map.2 ⟨x, List.mem_of_getElem? hx, e⟩))]
    rfl

set_option maxRecDepth 100000 in
set_option maxHeartbeats 1000000 in
theorem contents_any (s : List UInt8) (hs : s.length ≤ maxLen) (b mb N : Nat) (l : List Stp) (w : World) (hb : w.cell? ⟨b, 0, none⟩ = some (.map (some mb))) (ht : TMap w mb N (conF l)) :
    Calls Try.prog 19 #[.string (tx s), .pointer (some ⟨b, 0, none⟩)] w fun e w' => e = .returned (qv (givN l s l.length)) ∧ w = w' := by
  have hlk := ht.look hs Try.underlying52 (zeroQ w)
  rw [conF_get] at hlk
  obtain ⟨z, hz⟩ : ∃ z, z = qv (givN l s l.length) := ⟨_, rfl⟩
  have hz1 : z.oneCell' = true := by rw [hz]; rfl
  rw [← hz] at hlk ⊢
  clear ht hz
  go_enter Try.func19, Try.ntmps19
  go_wp2
  go_ret
  exact ⟨rfl, by first | rfl | trivial⟩

end Go.Proofs.Ytacjiojfjkonkaa
