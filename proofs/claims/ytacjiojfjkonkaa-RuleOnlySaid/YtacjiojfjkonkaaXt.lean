/- Names by what they are made of, in memory; the keys of a set, sorted. -/
import Derived.Test.YtacjiojfjkonkaaShi
import Derived.Test.YtacjiojfjkonkaaXr
import Derived.Test.YtacjiojfjkonkaaXs
import Derived.Test.YtacjiojfjkonkaaXb
namespace Go.Proofs.Ytacjiojfjkonkaa
open Go.RowKit Go.Maps Go.ChangeMaps Go.WideMaps Go.Sort Go.Shelf
set_option maxRecDepth 100000

/-- slices.Sort's two contracts. -/
theorem sorts_in (m : Nat) : AnyZ.SortsIn Try.prog Try.iterSorted_ren Fence.wide m :=
  ⟨fun blk off cap ss W hH hblk hsz => callsIn_wide.2 (AnyM.slices_Sort_string Try.iterSort blk off cap ss W hH hblk hsz),
   fun p cap W => callsIn_wide.2 (AnyM.slices_Sort_string_none Try.iterSort p cap W)⟩
theorem keys_any (mb : Option Nat) (W : World) : Calls Try.prog 26 #[.map mb] W fun e w' => e = .returned (.func (.func 37) #[] #[.pointer (some ⟨W.heap.size, 0, none⟩)]) ∧ w' = W.alloc (.cells #[.map mb] 46) :=
  callsIn_wide.1 (AnyZ.keys_in Try.iterKeys Fence.wide 5 trivial rfl mb W)

set_option maxHeartbeats 1000000 in
theorem sorted_own (b nn : Nat) (D0 : DataW Value) (w : World) (hown : w.ownsMap Try.prog 9 hElem b nn D0) (hmax : Maps.size D0 ≤ maxLen) (hbytes : Maps.size D0 * 16 ≤ 140737488355328) :
    Calls Try.prog 25 #[.func (.func 37) #[] #[.pointer (some ⟨w.heap.size, 0, none⟩)]] (w.alloc (.cells #[.map (some b)] 46)) fun e w' => ∃ (v : Value) (ss : List (List UInt8)), e = .returned v ∧ ss.Perm (strKeys D0) ∧
      w'.ownsRow (w.alloc (.cells #[.map (some b)] 46)).heap.size 9 1 v ss.length ((ss.mergeSort (fun x y => decide (x ≤ y))).map encStr) ∧ (v = .slice none 0 0 ↔ ss = []) ∧ Below (w.alloc (.cells #[.map (some b)] 46)).heap.size (w.alloc (.cells #[.map (some b)] 46)) w' := by
  have hbl := hown.lt
  have hseq : SeqGives Fence.wide 2 Try.prog 37 #[.pointer (some ⟨w.heap.size, 0, none⟩)] encStr (fun ss => ss.Perm (strKeys D0)) (Maps.size D0) (w.alloc (.cells #[.map (some b)] 46)) :=
    AnyZ.keys_gives (ρ := Try.iterKeys_ren) { Try.iterKeys with } Fence.wide _ trivial rfl (by omega) w.heap.size b nn D0 _ (by simp) (by simp) (by
      obtain ⟨es, clock, hb, Ft, hs, hD⟩ := hown
      exact ⟨es, clock, (Below.heap_alloc _ _ b hbl).trans hb, Ft, hs, hD⟩)
  exact callsIn_wide.1 (AnyZ.sorted_in Try.iterSorted Fence.wide 5 trivial trivial trivial trivial rfl (by omega) (sorts_in _) (enters_of Try.func36 (by kernel_rfl) rfl) 37 #[.pointer (some ⟨w.heap.size, 0, none⟩)] trivial (enters_of Try.func37 (by kernel_rfl) rfl) _ _ hmax hbytes _ hseq)

/-- The keys of a set, sorted: new memory. -/
theorem sorted_any (b : Nat) (S : List (List UInt8)) (hS : S.length ≤ 1000000) (w : World) (h : TSet w b S) :
    Calls Try.prog 25 #[.func (.func 37) #[] #[.pointer (some ⟨w.heap.size, 0, none⟩)]] (w.alloc (.cells #[.map (some b)] 46)) fun e w' => (∃ A c, e = .returned (.slice A S.length c) ∧ (A = none → c = 0) ∧
      w'.ownsRow w.heap.size 9 1 (.slice A S.length c) S.length ((S.mergeSort (fun x y => decide (x ≤ y))).map tsv)) ∧ Below w.heap.size w w' := by
  obtain ⟨D, h1, h2, h3, h4⟩ := h
  refine (sorted_own b _ D w h1 (by rw [h3]; unfold maxLen; omega) (by rw [h3]; omega)).mono ?_
  rintro e w' ⟨v, ss, rfl, hp, hrow, hnil, hb⟩
  have hp2 : S.Perm (strKeys D) := Collected.perm (left := fun _ => false) ⟨h4, fun x => by rw [h2.has, setF_has]; simp⟩ h1 xkey Try.underlying9 (fun _ => rfl)
  have hl : ss.length = S.length := by rw [hp.length_eq, hp2.length_eq]
  have hm : ss.mergeSort (fun x y => decide (x ≤ y)) = S.mergeSort (fun x y => decide (x ≤ y)) := mergeSort_of_perm (hp.trans hp2.symm)
  rw [hm, hl] at hrow
  obtain ⟨A, c, rfl, hA⟩ := own_slice hrow
  have hal : Below w.heap.size w (w.alloc (.cells #[.map (some b)] 46)) := (Below.refl _ _).alloc (Nat.le_refl _) _
  exact ⟨⟨A, c, rfl, hA, own_less hrow (by simp)⟩, hal.trans (hb.mono (by simp))⟩

/-- What is made of each name, in memory. -/
def MadeOf (w : World) (base b : Nat) (L : List (List UInt8 × List UInt8)) : Prop := ∃ f, TMap w b L.length f ∧ (∀ u, w.ownsRow base 9 1 ((f u).getD (.slice none 0 0)) (gOf L u).length ((gOf L u).map tsv)) ∧ ∀ u u', u ≠ u' → Apart ((f u).getD (.slice none 0 0)) ((f u').getD (.slice none 0 0))
theorem madeOf_start (w : World) (base : Nat) : MadeOf (w.alloc (.map #[] 0)) base w.heap.size [] :=
  ⟨_, tmap_start w, fun _ => World.ownsRow_nil _ _ _ _, fun _ _ _ g h => by cases h⟩
theorem MadeOf.below {w w' : World} {base b : Nat} {L : List (List UInt8 × List UInt8)} (h : MadeOf w base b L) (hb : Below w.heap.size w w') : MadeOf w' base b L := by
  obtain ⟨f, h1, h2, h3⟩ := h
  exact ⟨f, h1.below hb, fun u => own_below (h2 u) hb, h3⟩
/-- One more name. -/
theorem madeOf_step {w w4 w5 : World} {base b : Nat} {L : List (List UInt8 × List UInt8)} {f : List UInt8 → Option Value} {d nm : List UInt8} {v v' : Value} (hbb : b < base)
    (h2 : ∀ u, w.ownsRow base 9 1 ((f u).getD (.slice none 0 0)) (gOf L u).length ((gOf L u).map tsv)) (h3 : ∀ u u', u ≠ u' → Apart ((f u).getD (.slice none 0 0)) ((f u').getD (.slice none 0 0)))
    (hv : (f d).getD (.slice none 0 0) = v) (ho : w4.ownsRow base 9 1 v' ((gOf L d).length + 1) ((gOf L d).map tsv ++ [.string (tx nm)])) (hg : w.grownBy w4 v.ownBlock) (ht : v'.ownBlock = v.ownBlock ∨ v'.ownBlock = some w.heap.size)
    (hm : TMap w5 b (L.length + 1) (fput f d v')) (hg5 : w4.grownBy w5 (some b)) : MadeOf w5 base b (L ++ [(d, nm)]) := by
  subst hv
  have hput : ∀ u, (fput f d v' u).getD (.slice none 0 0) = if u = d then v' else (f u).getD (.slice none 0 0) := fun u => by
    unfold fput
    by_cases h : u = d <;> simp [h]
  refine ⟨fput f d v', by simpa using hm, fun u => ?_, fun u u' hne => ?_⟩
  · rw [hput u]
    by_cases h : u = d
    · subst h
      rw [if_pos rfl, gOf_same, List.length_append, List.map_append]
      exact ho.kept hg5 (.inr (fun e => by have := own_block ho _ e; omega))
    · rw [if_neg h, gOf_other L nm h]
      have h5 := own_kept (h2 u) (h3 d u (Ne.symm h)) hg
      exact h5.kept hg5 (.inr (fun e => by have := own_block h5 _ e; omega))
  · rw [hput u, hput u']
    have hnew : ∀ u, u ≠ d → Apart v' ((f u).getD (.slice none 0 0)) := fun u hu g h1 hh2 => by
      rcases ht with h | h
      · exact h3 d u (Ne.symm hu) g (by rw [← h]; exact h1) hh2
      · rw [h] at h1
        have := own_lt (h2 u) g hh2
        have := Option.some.inj h1
        omega
    by_cases h : u = d
    · rw [if_pos h, if_neg (fun e => hne (by rw [h, e]))]
      exact hnew u' (fun e => hne (by rw [h, e]))
    · rw [if_neg h]
      by_cases h' : u' = d
      · rw [if_pos h']
        exact (hnew u h).symm
      · rw [if_neg h']
        exact h3 u u' hne
theorem zeroTs (w : World) : (zeroValue 35).run Try.prog w = .ok (.slice none 0 0) w := by kernel_rfl

end Go.Proofs.Ytacjiojfjkonkaa
