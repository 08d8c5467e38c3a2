/- The walks of slices.Clone, maps.Clone, copied and Copy. -/
import Derived.Laws.Externs
import Derived.Test.YtfdeafhmfmeafaaId
import Derived.Test.YtfdeafhmfmeafaaH
namespace Go.Proofs.Ytfdeafhmfmeafaa
open Go.RowKit Go.Maps Go.ChangeMaps Go.WideMaps

theorem own_more0 {w : World} {base : Nat} {e : TypeId} {size : Nat} {v : Value} {n : Nat} {xs : List Value} (h : w.ownsRow base e size v n xs) : w.ownsRow 0 e size v n xs :=
  ⟨h.1, h.2.imp id fun ⟨g, cap, cur, hv, _, r⟩ => ⟨g, cap, cur, hv, Nat.zero_le _, r⟩⟩

set_option maxRecDepth 100000 in
set_option maxHeartbeats 400000 in
theorem sclone_any (A : Option Addr) (n c : Nat) (ts : List (List UInt8)) (hn : n ≤ 1073741824) (hA : A = none → n = 0 ∧ c = 0) (w : World) (hr : Reads w w.heap.size 1 A n (ts.map tsv)) :
    Calls Try.prog 24 #[.slice A n c] w fun e w' => ∃ v, e = .returned v ∧ w'.ownsRow w.heap.size 9 1 v n (ts.map tsv) ∧ Below w.heap.size w w' := by
  obtain ⟨i0, hi, hz0, hz1, hz2⟩ := info_parts tinfo
  have hone : ∀ u ∈ ts.map tsv, u.oneCell' = true := fun u hu => by
    obtain ⟨t, _, rfl⟩ := List.mem_map.1 hu
    rfl
  have hlen := hr.1
  obtain ⟨xs, hx⟩ : ∃ xs, xs = ts.map tsv := ⟨_, rfl⟩
  rw [← hx] at hr hone hlen ⊢
  clear hx
  cases A with
  | none =>
    obtain ⟨rfl, rfl⟩ := hA rfl
    obtain rfl : xs = [] := List.eq_nil_of_length_eq_zero (by simpa using hlen)
    have he : ∀ w : World, (binOp .eql 22 (.slice none 0 0) (.slice none 0 0)).run Try.prog w = .ok (.bool true) w := fun _ => rfl
    clear hr hlen hone hA
    go_enter Try.func24, Try.ntmps24
    go_wp2
    go_ret
    exact ⟨_, rfl, World.ownsRow_nil _ _ _ _, Below.refl _ _⟩
  | some ad =>
    have he : ∀ w : World, (binOp .eql 22 (.slice (some ad) n c) (.slice none 0 0)).run Try.prog w = .ok (.bool false) w := fun _ => rfl
    have hal := hr.alloc (Nat.le_refl _) (.cells #[] 9)
    clear hlen hr
    go_enter Try.func24, Try.ntmps24
    go_wp2_with (at_builtin; refine wpList_append_reads _ rfl (.tmp 5) (.tmp 6) 22 rfl w.heap.size 9 i0 (.string { data := #[] }) 16 Try.underlying22 hi hz0 hz1 hz2 rfl (.slice (some ⟨w.heap.size, 0, none⟩) 0 0) 0 [] rfl (own_empty _ _) (some ad) n c w.heap.size _ rfl (fun e => by cases e) hal hone (by unfold maxLen; omega) (by omega) (by simp) ?_; intro v3 w3 ho3 hg3)
    go_ret
    exact ⟨_, rfl, by simpa using ho3, ((Below.refl _ w).alloc (Nat.le_refl _) _).grown hg3 (by simp) (fun k hk => by simp [Value.ownBlock] at hk; omega)⟩

set_option maxRecDepth 100000 in
set_option maxHeartbeats 400000 in
theorem mclone_none (w : World) : Calls Try.prog 25 #[.map none] w fun e w' => e = .returned (.map none) ∧ w = w' := by
  have hq := fun w => run_eql_map_nil_sl (P := Try.prog) w 42 _ _ none Try.underlying42
  go_enter Try.func25, Try.ntmps25
  go_wp2
  go_ret
  exact ⟨rfl, rfl⟩

set_option maxRecDepth 100000 in
set_option maxHeartbeats 2000000 in
theorem mclone_some (b N : Nat) (D : DataW Nat) (w : World) (hown : w.ownsMap Try.prog 9 (plainElem Try.prog 32) b N D) :
    Calls Try.prog 25 #[.map (some b)] w fun e w' => e = .returned (.map (some w.heap.size)) ∧ w'.ownsMap Try.prog 9 (plainElem Try.prog 32) w.heap.size N D ∧ Below w.heap.size w w' := by
  obtain ⟨es, clock, hb, F, hs, hD⟩ := hown
  have hq := fun w => run_eql_map_nil_sl (P := Try.prog) w 42 _ _ (some b) Try.underlying42
  have HB : Hid ((w.alloc (.map es clock)).ownsMap Try.prog 9 (plainElem Try.prog 32) w.heap.size N D) := ⟨es, clock, by show (w.heap.push _)[w.heap.size]? = _; simp, F, hs, hD⟩
  clear F hs hD
  go_enter Try.func25, Try.ntmps25
  go_wp2
  rw [run_callFunc_extern Try.func26 (by kernel_rfl) (by kernel_rfl) (by kernel_rfl) (e := Extern.MapsClone.clone) (by kernel_rfl), run_maps_clone_sl w 42 hb]
  simp only [Result.andThen]
  rw [Oper.upon_value]
  go_wp2
  rw [run_typeAssert_map_sl _ 42 20 _ _ _ Try.underlying42]
  simp only [Result.andThen]
  rw [Oper.upon_value]
  go_wp2
  go_ret
  exact ⟨rfl, HB.out, (Below.refl _ w).alloc (Nat.le_refl _) _⟩

theorem mclone_any (mv : Option Nat) (N : Nat) (l : List (List UInt8)) (w : World) (h : (mv = none ∧ l = []) ∨ ∃ (mb : Nat) (D : DataW Nat), mv = some mb ∧ w.ownsMap Try.prog 9 (plainElem Try.prog 32) mb N D ∧ NumOf D l) :
    Calls Try.prog 25 #[.map mv] w fun e w' => ∃ mv' : Option Nat, e = .returned (.map mv') ∧ ((mv' = none ∧ l = []) ∨ ∃ (mb : Nat) (D : DataW Nat), mv' = some mb ∧ w.heap.size ≤ mb ∧ w'.ownsMap Try.prog 9 (plainElem Try.prog 32) mb N D ∧ NumOf D l) ∧ Below w.heap.size w w' := by
  rcases h with ⟨rfl, hl⟩ | ⟨mb, D, rfl, hm, hn⟩
  · refine (mclone_none w).mono ?_
    rintro e w' ⟨rfl, rfl⟩
    exact ⟨none, rfl, .inl ⟨rfl, hl⟩, Below.refl _ _⟩
  · refine (mclone_some mb N D w hm).mono ?_
    rintro e w' ⟨rfl, hm', hb'⟩
    exact ⟨_, rfl, .inr ⟨_, D, rfl, Nat.le_refl _, hm', hn⟩, hb'⟩

set_option maxRecDepth 100000 in
set_option maxHeartbeats 1000000 in
theorem copied_any (S : Nat → Prop) (b N : Nat) (l : List (List UInt8)) (hl : l.length ≤ 1073741824) (w : World) (h : Tab w S b N l) :
    Calls Try.prog 22 #[.pointer (some ⟨b, 0, none⟩)] w fun e w' => ∃ (L' : Option Addr) (c' : Nat) (mv' : Option Nat), e = .returned (.agg #[.slice L' l.length c', .map mv']) ∧
      w'.ownsRow w.heap.size 9 1 (.slice L' l.length c') l.length (l.map tsv) ∧ ((mv' = none ∧ l = []) ∨ ∃ (mb : Nat) (D : DataW Nat), mv' = some mb ∧ w.heap.size ≤ mb ∧ w'.ownsMap Try.prog 9 (plainElem Try.prog 32) mb N D ∧ NumOf D l) ∧ Below w.heap.size w w' := by
  obtain ⟨L, c, mv, h1, hSb, h3, h4, h5, hnd, hlen⟩ := h
  have hblt := (Array.getElem?_eq_some_iff.1 h1).1
  have hc0 : ∀ W, Below w.heap.size w W → W.cell? ⟨b, 0, none⟩ = some (.slice L l.length c) := fun W hb => field_cell ((hb.block b hblt).trans h1) rfl
  have hc1 : ∀ W, Below w.heap.size w W → W.cell? ⟨b, 1, none⟩ = some (.map mv) := fun W hb => field_cell ((hb.block b hblt).trans h1) rfl
  have hA : L = none → l.length = 0 ∧ c = 0 := by
    intro e
    rcases h3.2 with ⟨h0, h00⟩ | ⟨g', cap, cur, hv, _⟩
    · injection h0 with _ _ h0
      exact ⟨h00, h0⟩
    · rw [e] at hv; injection hv with hv _ _; cases hv
  obtain ⟨n, hn⟩ : ∃ n, n = l.length := ⟨_, rfl⟩
  have HR := Lib.hid (Reads.of_own h3)
  rw [← hn] at hc0 hA hl HR ⊢
  have HA := Lib.hid hA
  have HN := Lib.hid hn
  have H5 : Hid (∀ W, Below w.heap.size w W → (mv = none ∧ l = []) ∨ ∃ (mb : Nat) (D : DataW Nat), mv = some mb ∧ W.ownsMap Try.prog 9 (plainElem Try.prog 32) mb N D ∧ NumOf D l) := fun W hb => by
    rcases h5 with h5 | ⟨mb, D, e, _, hm, hno⟩
    · exact .inl h5
    · exact .inr ⟨mb, D, e, map_heap hm (hb.block mb hm.lt), hno⟩
  have HC0 := Lib.hid hc0
  have HC1 := Lib.hid hc1
  clear h1 hSb h3 h4 h5 hnd hlen hc0 hc1 hA hn
  go_enter Try.func22, Try.ntmps22
  go_wp2_with fail
  obtain ⟨W1, hW1⟩ : ∃ W1, W1 = w.alloc (.cells #[.slice none 0 0, .map none] 44) := ⟨_, rfl⟩
  rw [← hW1]
  have hb1 : Below w.heap.size w W1.drew := by rw [hW1]; exact ((Below.refl _ w).alloc (Nat.le_refl _) _).drew
  have hbx : W1.drew.heap[w.heap.size]? = some (.cells #[.slice none 0 0, .map none] 44 (0, 0)) := by rw [hW1]; show (w.heap.push _)[w.heap.size]? = _; simp
  have hsz1 : W1.drew.heap.size = w.heap.size + 1 := by rw [hW1]; simp
  have hS0 := hb1
  clear hW1
  refine wp_region_held (S := fun W => Below w.heap.size w W) (by kernel_rfl) ?_
  refine h_take 0 (.pointer (some ⟨b, 0, none⟩)) rfl (by kernel_rfl) (by kernel_rfl) (by kernel_rfl) (fun _ _ _ h => h) (by kernel_rfl) hS0 (fun _ _ => by kernel_rfl) ?_
  refine h_take 1 (.pointer (some ⟨b, 0, none⟩)) rfl (by kernel_rfl) (by kernel_rfl) (by kernel_rfl) (fun _ _ _ h => h) (by kernel_rfl) hS0 (by intro w' hb; go_simp) ?_
  refine h_take 2 (.pointer (some ⟨b, 0, none⟩)) rfl (by kernel_rfl) (by kernel_rfl) (by kernel_rfl) (fun _ _ _ h => h) (by kernel_rfl) hS0 (by intro w' hb; go_simp) ?_
  refine h_take 3 (.slice L n c) rfl (by kernel_rfl) (by kernel_rfl) (by kernel_rfl) (fun _ _ _ h => h) (by kernel_rfl) hS0 (by intro w' hb; have hc := HC0.out w' hb; go_simp) ?_
  refine h_take 5 (.pointer (some ⟨b, 0, none⟩)) rfl (by kernel_rfl) (by kernel_rfl) (by kernel_rfl) (fun _ _ _ h => h) (by kernel_rfl) hS0 (fun _ _ => by kernel_rfl) ?_
  refine h_take 6 (.pointer (some ⟨b, 0, none⟩)) rfl (by kernel_rfl) (by kernel_rfl) (by kernel_rfl) (fun _ _ _ h => h) (by kernel_rfl) hS0 (by intro w' hb; go_simp) ?_
  refine h_take 7 (.pointer (some ⟨b, 1, none⟩)) rfl (by kernel_rfl) (by kernel_rfl) (by kernel_rfl) (fun _ _ _ h => h) (by kernel_rfl) hS0 (by intro w' hb; go_simp) ?_
  refine h_take 8 (.map mv) rfl (by kernel_rfl) (by kernel_rfl) (by kernel_rfl) (fun _ _ _ h => h) (by kernel_rfl) hS0 (by intro w' hb; have hc := HC1.out w' hb; go_simp) ?_
  refine h_one 4 rfl (by kernel_rfl) (by kernel_rfl) (fun K hK => ?_)
  go_simp
  refine (sclone_any L n c l hl HA.out W1.drew ((HR.out.below hb1).more hb1.size)).mono ?_
  rintro e w2 ⟨v2, rfl, ho2, hb2⟩
  obtain ⟨A2, c2, rfl, hc2, -⟩ := own_reads ho2
  have hK2 : Below (w.heap.size + 1) W1.drew w2 := by rw [← hsz1]; exact hb2
  have hS2 : Below w.heap.size w w2 := hb1.trans (hK2.mono (by omega))
  refine hK _ _ hS2 ?_
  clear hK K
  refine h_one 9 rfl (by kernel_rfl) (by kernel_rfl) (fun K hK => ?_)
  go_simp
  refine (mclone_any mv N l w2 (H5.out w2 hS2)).mono ?_
  rintro e w3 ⟨mv3, rfl, hm3, hb3⟩
  have hK3 : Below (w.heap.size + 1) W1.drew w3 := hK2.trans (hb3.mono (by have := hK2.size; omega))
  have hS3 : Below w.heap.size w w3 := hb1.trans (hK3.mono (by omega))
  refine hK _ _ hS3 ?_
  clear hK K
  refine h_take 10 (.agg #[.slice A2 n c2, .map mv3]) rfl (by kernel_rfl) (by kernel_rfl) (by kernel_rfl) (fun _ _ _ h => h) (by kernel_rfl) hS3 (by intro w' hb; go_simp) ?_
  have hbx3 : w3.heap[w.heap.size]? = some (.cells #[.slice none 0 0, .map none] 44 (0, 0)) := (hK3.block _ (by omega)).trans hbx
  have hx0 : w3.cell? ⟨w.heap.size, 0, none⟩ = some (.slice none 0 0) := field_cell hbx3 rfl
  have hx1 : w3.cell? ⟨w.heap.size, 1, none⟩ = some (.map none) := field_cell hbx3 rfl
  have hy0 : w3.frozen? ⟨w.heap.size, 0, none⟩ = false := field_free hbx3
  have hy1 : w3.frozen? ⟨w.heap.size, 1, none⟩ = false := field_free hbx3
  refine h_one 11 rfl (by kernel_rfl) (by kernel_rfl) (fun K hK => ?_)
  go_simp
  have hS4 : Below w.heap.size w ((w3.setCell ⟨w.heap.size, 0, none⟩ (.slice A2 n c2)).setCell ⟨w.heap.size, 1, none⟩ (.map mv3)) := (hS3.setCell (p := ⟨w.heap.size, 0, none⟩) (Nat.le_refl _) _).setCell (p := ⟨w.heap.size, 1, none⟩) (Nat.le_refl _) _
  refine hK _ _ hS4 ?_
  clear hK K
  refine wpAnyH_done (by kernel_rfl) ?_ _
  go_simp
  have hbx4 := field_set (j := 1) (u := .map mv3) (field_set (j := 0) (u := .slice A2 n c2) hbx3)
  go_wp2
  refine bodyPost_ret (results_cell_row rfl _ _ _ _ _ _ _ rfl hbx4 Try.underlying44 rfl (by kernel_rfl)) rfl ?_
  refine ⟨A2, c2, mv3, ?_, ?_, ?_, hS4⟩
  · simp
  · have ho3 := own_below ho2 hb3
    have h4 := own_heap (w' := (w3.setCell ⟨w.heap.size, 0, none⟩ (.slice A2 n c2)).setCell ⟨w.heap.size, 1, none⟩ (.map mv3)) ho3 (fun g hg => by
      have hge := own_block ho3 g hg
      have hne : g ≠ w.heap.size := by omega
      exact (Below.heap_setCell _ _ _ g hne).trans (Below.heap_setCell _ _ _ g hne))
    exact ⟨h4.1, h4.2.imp id fun ⟨g, cap, cur, hv, hge, r⟩ => ⟨g, cap, cur, hv, by omega, r⟩⟩
  · rcases hm3 with h | ⟨mb, D, e1, e2, e3, e4⟩
    · exact .inl h
    · have hge := hK2.size
      have hne : mb ≠ w.heap.size := by omega
      exact .inr ⟨mb, D, e1, by omega, map_heap e3 ((Below.heap_setCell _ _ _ mb hne).trans (Below.heap_setCell _ _ _ mb hne)), e4⟩

set_option maxRecDepth 100000 in
set_option maxHeartbeats 1000000 in
theorem Copy_any (S : Nat → Prop) (b N : Nat) (l : List (List UInt8)) (hl : l.length ≤ 1073741824) (w : World) (h : Tab w S b N l) :
    Calls Try.prog 15 #[.pointer (some ⟨b, 0, none⟩)] w fun e w' => ∃ b', e = .returned (.pointer (some ⟨b', 0, none⟩)) ∧ Tab w' (fun k => w.heap.size ≤ k) b' N l ∧ Below w.heap.size w w' := by
  have hnd := h
  obtain ⟨_, _, _, _, _, _, _, _, hnd, hlen⟩ := hnd
  have HF := Lib.hid (copied_any S b N l hl w h)
  have HND := Lib.hid hnd
  have HLEN := Lib.hid hlen
  clear h hnd hlen
  go_enter Try.func15, Try.ntmps15
  go_wp2_with (first
    | (go_at_call 18; refine (all_any b _).mono ?_; rintro e w1 ⟨rfl, rfl⟩)
    | (go_at_call 22; refine HF.out.mono ?_; rintro e w1 ⟨L', c', mv', rfl, ho, hm, hb⟩))
  go_ret
  refine ⟨_, rfl, ⟨L', c', mv', by show (w1.heap.push _)[w1.heap.size]? = _; simp, hb.size, own_more0 (ho.alloc _), fun g hg => own_block ho g hg, ?_, HND.out, HLEN.out⟩, hb.alloc hb.size _⟩
  rcases hm with h | ⟨mb, D, h1, h2, h3, h4⟩
  · exact .inl h
  · exact .inr ⟨mb, D, h1, h2, h3.alloc _, h4⟩

end Go.Proofs.Ytfdeafhmfmeafaa
