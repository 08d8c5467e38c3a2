/- Names: the keys of the files' map, sorted. -/
import Derived.Test.YtfgonihpakcbbaaShi
import Derived.Test.YtfgonihpakcbbaaOn
import Derived.Test.YtfgonihpakcbbaaGa
namespace Go.Proofs.Ytfgonihpakcbbaa
open Go.RowKit Go.Maps Go.ChangeMaps Go.WideMaps Go.Sort Go.Shelf
set_option maxRecDepth 100000

/-- slices.Sort's two contracts. -/
theorem fsorts_in (m : Nat) : AnyZ.SortsIn Try.prog Try.iterSorted_ren Fence.wide m :=
  ⟨fun blk off cap ss W hH hblk hsz => callsIn_wide.2 (AnyM.slices_Sort_string Try.iterSort blk off cap ss W hH hblk hsz),
   fun p cap W => callsIn_wide.2 (AnyM.slices_Sort_string_none Try.iterSort p cap W)⟩
theorem fkeys_any (mb : Option Nat) (W : World) : Calls Try.prog 27 #[.map mb] W fun e w' => e = .returned (.func (.func 38) #[] #[.pointer (some ⟨W.heap.size, 0, none⟩)]) ∧ w' = W.alloc (.cells #[.map mb] 46) :=
  callsIn_wide.1 (AnyZ.keys_in Try.iterKeys Fence.wide 5 trivial rfl mb W)

set_option maxHeartbeats 1000000 in
theorem fsorted_own (b nn : Nat) (D0 : DataW Value) (w : World) (hown : w.ownsMap Try.prog 9 hElem b nn D0) (hmax : Maps.size D0 ≤ maxLen) (hbytes : Maps.size D0 * 16 ≤ 140737488355328) :
    Calls Try.prog 26 #[.func (.func 38) #[] #[.pointer (some ⟨w.heap.size, 0, none⟩)]] (w.alloc (.cells #[.map (some b)] 46)) fun e w' => ∃ (v : Value) (ss : List (List UInt8)), e = .returned v ∧ ss.Perm (strKeys D0) ∧
      w'.ownsRow (w.alloc (.cells #[.map (some b)] 46)).heap.size 9 1 v ss.length ((ss.mergeSort (fun x y => decide (x ≤ y))).map encStr) ∧ (v = .slice none 0 0 ↔ ss = []) ∧ Below (w.alloc (.cells #[.map (some b)] 46)).heap.size (w.alloc (.cells #[.map (some b)] 46)) w' := by
  have hbl := hown.lt
  have hseq : SeqGives Fence.wide 2 Try.prog 38 #[.pointer (some ⟨w.heap.size, 0, none⟩)] encStr (fun ss => ss.Perm (strKeys D0)) (Maps.size D0) (w.alloc (.cells #[.map (some b)] 46)) :=
    AnyZ.keys_gives (ρ := Try.iterKeys_ren) { Try.iterKeys with } Fence.wide _ trivial rfl (by omega) w.heap.size b nn D0 _ (by simp) (by simp) (by
      obtain ⟨es, clock, hb, Ft, hs, hD⟩ := hown
      exact ⟨es, clock, (Below.heap_alloc _ _ b hbl).trans hb, Ft, hs, hD⟩)
  exact callsIn_wide.1 (AnyZ.sorted_in Try.iterSorted Fence.wide 5 trivial trivial trivial trivial rfl (by omega) (fsorts_in _) (enters_of Try.func37 (by kernel_rfl) rfl) 38 #[.pointer (some ⟨w.heap.size, 0, none⟩)] trivial (enters_of Try.func38 (by kernel_rfl) rfl) _ _ hmax hbytes _ hseq)

/-- A map's keys: none twice, and those that it has. -/
theorem keys_are {w : World} {b n : Nat} {D : DataW Value} (h : w.ownsMap Try.prog 9 hElem b n D) : (strKeys D).Nodup ∧ ∀ x, x ∈ strKeys D ↔ Maps.has D (.string x) = true := by
  obtain ⟨es, hD, hpw, _⟩ := h.entries xkey
  obtain ⟨es', hD', hko⟩ := h.keysOf
  obtain rfl : es = es' := by rw [hD] at hD'; simpa using hD'
  subst hD
  have hk : ∀ q ∈ es, ∃ x, q.1 = .string x := fun q hq => by
    obtain ⟨v, hv⟩ := hko q hq
    obtain ⟨x, _, hx, _⟩ := Maps.keyOf_str Try.underlying9 hv
    exact ⟨x, hx⟩
  constructor
  · refine List.pairwise_map.2 (hpw.imp_of_mem fun {q r} hq hr hne e => hne ?_)
    obtain ⟨x, hx⟩ := hk q hq
    obtain ⟨y, hy⟩ := hk r hr
    rw [hx, hy] at e ⊢
    exact congrArg _ e
  · intro x
    rw [has_eq, List.any_eq_true]
    show x ∈ es.map (fun q => strOf q.1) ↔ _
    rw [List.mem_map]
    constructor
    · rintro ⟨q, hq, rfl⟩
      obtain ⟨y, hy⟩ := hk q hq
      exact ⟨q, hq, by rw [hy]; simp [Lit.sameKey, strOf]⟩
    · rintro ⟨q, hq, hs⟩
      obtain ⟨y, hy⟩ := hk q hq
      rw [hy] at hs
      exact ⟨q, hq, by rw [hy]; simpa [Lit.sameKey, strOf] using hs⟩
/-- The names of files, rising. -/
def IsNames (fl : List UInt8 → Option Fl) (ns : List (List UInt8)) : Prop := ns.Pairwise (fun a b => a < b) ∧ ∀ u, u ∈ ns ↔ (fl u).isSome = true
theorem nsort_up {l : List (List UInt8)} (hn : l.Nodup) : (l.mergeSort (fun x y => decide (x ≤ y))).Pairwise (fun a b => a < b) := by
  have tr : ∀ a b c : List UInt8, decide (a ≤ b) = true → decide (b ≤ c) = true → decide (a ≤ c) = true := fun a b c h1 h2 => by simp only [decide_eq_true_eq] at *; exact List.le_trans h1 h2
  have to : ∀ a b : List UInt8, (decide (a ≤ b) || decide (b ≤ a)) = true := fun a b => by simp only [Bool.or_eq_true, decide_eq_true_eq]; exact List.le_total a b
  have h1 := List.pairwise_mergeSort tr to l
  have h2 : (l.mergeSort (fun x y => decide (x ≤ y))).Nodup := (List.mergeSort_perm l _).nodup_iff.2 hn
  refine (h1.and h2).imp fun {a b} h => ?_
  have h3 : a ≤ b := by simpa using h.1
  rcases lx_tri a b with h4 | h4 | h4
  · exact h4
  · exact absurd h4 h.2
  · exact absurd (List.le_antisymm h3 (List.le_of_lt h4)) h.2

set_option maxHeartbeats 1000000 in
theorem names_any (p b N base : Nat) (down : Bool) (f g : Bool × Int) (fl : List UInt8 → Option Fl) (F : List UInt8 → Option Value) (hN : N ≤ 1000000) (w : World) (h : FsBox w p b down f g) (hf : FilesF w base b N fl F) :
    Calls Try.prog 11 #[.pointer (some ⟨p, 0, none⟩)] w fun e w' => (∃ A c ns, IsNames fl ns ∧ ns.length ≤ N ∧ e = .returned (.slice A ns.length c) ∧ (A = none → c = 0) ∧ w'.ownsRow w.heap.size 9 1 (.slice A ns.length c) ns.length (ns.map tsv)) ∧ Below w.heap.size w w' := by
  have c0 := at_cell (i := 0) h rfl
  obtain ⟨⟨D, hown, hmf⟩, hnone, hsome, _⟩ := hf
  have hsz := hown.size_le
  obtain ⟨hnd, hmem⟩ := keys_are hown
  have HSO := Lib.hid (fsorted_own b N D w hown (by unfold maxLen; omega) (by omega))
  have HKS : Hid (∀ ss : List (List UInt8), ss.Perm (strKeys D) → IsNames fl (ss.mergeSort (fun x y => decide (x ≤ y)))) := fun ss hp => by
    refine ⟨nsort_up (hp.nodup_iff.2 hnd), fun u => ?_⟩
    rw [List.mem_mergeSort, hp.mem_iff, hmem, hmf.has]
    cases e : fl u with
    | none => rw [hnone u e]; simp
    | some x =>
      obtain ⟨A, c, e2, _⟩ := hsome u x e
      rw [e2]
      rfl
  have HLN : Hid (∀ ss : List (List UInt8), ss.Perm (strKeys D) → ss.length ≤ N) := fun ss hp => by
    rw [hp.length_eq]
    refine Nat.le_trans ?_ hsz
    obtain ⟨es, hD⟩ := hown.isMap
    subst hD
    show (es.map _).length ≤ es.length
    simp
  clear h hown hmf hnone hsome hnd hmem hsz
  go_enter Try.func11, Try.ntmps11
  go_wp2_with (first
    | (go_at_call 26; refine HSO.out.mono ?_; rintro e w6 ⟨v, ss, rfl, hp, ho6, _, hb6⟩; obtain ⟨A6, c6, rfl, hA6⟩ := own_slice ho6; have HO6 := Lib.hid ho6; have HA6 := Lib.hid hA6; have HP := Lib.hid hp; have HB6 := Lib.hid hb6; clear ho6 hA6 hp hb6)
    | (go_at_call 27; refine (fkeys_any _ _).mono ?_; rintro e w5 ⟨rfl, rfl⟩))
  go_ret
  have hl : (ss.mergeSort (fun x y => decide (x ≤ y))).length = ss.length := List.length_mergeSort _
  have hal : Below w.heap.size w (w.alloc (.cells #[.map (some b)] 46)) := (Below.refl _ _).alloc (Nat.le_refl _) _
  refine ⟨⟨A6, c6, _, HKS.out ss HP.out, by rw [hl]; exact HLN.out ss HP.out, by rw [hl]; rfl, HA6.out, ?_⟩, hal.trans (HB6.out.mono (by simp))⟩
  rw [hl]
  exact own_less HO6.out (by simp)

end Go.Proofs.Ytfgonihpakcbbaa
