/- slices.Clone of bytes; a file's first bytes. -/
import Derived.Laws.Externs
import Derived.Test.YtfgonihpakcbbaaOd
import Derived.Test.YtfgonihpakcbbaaOe
namespace Go.Proofs.Ytfgonihpakcbbaa
open Go.RowKit Go.Maps Go.ChangeMaps Go.WideMaps Go.Sort

theorem byte_infoc : (Try.prog.info? 5).map (fun i => (i.zero, i.size, i.bytes)) = some (some (.int .u8 0), 1, 1) := by kernel_rfl
set_option maxRecDepth 100000 in
set_option maxHeartbeats 400000 in
theorem bclone_any (A : Option Addr) (n c : Nat) (ts : List UInt8) (hn : n ≤ 1073741824) (hA : A = none → c = 0) (w : World) (hr : Reads w w.heap.size 1 A n (ts.map bv)) :
    Calls Try.prog 24 #[.slice A n c] w fun e w' => ∃ v, e = .returned v ∧ w'.ownsRow w.heap.size 5 1 v n (ts.map bv) ∧ Below w.heap.size w w' := by
  obtain ⟨i0, hi, hz0, hz1, hz2⟩ := info_parts byte_infoc
  have hone : ∀ u ∈ ts.map bv, u.oneCell' = true := fun u hu => by
    obtain ⟨t, _, rfl⟩ := List.mem_map.1 hu
    rfl
  have hlen := hr.1
  obtain ⟨xs, hx⟩ : ∃ xs, xs = ts.map bv := ⟨_, rfl⟩
  rw [← hx] at hr hone hlen ⊢
  clear hx
  cases A with
  | none =>
    obtain rfl := hA rfl
    have hn0 : n = 0 := by
      rcases Nat.eq_zero_or_pos n with h0 | h0
      · exact h0
      · obtain ⟨_, e, _⟩ := hr.2 h0
        cases e
    subst hn0
    obtain rfl : xs = [] := List.eq_nil_of_length_eq_zero (by simpa using hlen)
    have he : ∀ w : World, (binOp .eql 28 (.slice none 0 0) (.slice none 0 0)).run Try.prog w = .ok (.bool true) w := fun _ => rfl
    clear hr hlen hone hA
    go_enter Try.func24, Try.ntmps24
    go_wp2
    go_ret
    exact ⟨_, rfl, World.ownsRow_nil _ _ _ _, Below.refl _ _⟩
  | some ad =>
    have he : ∀ w : World, (binOp .eql 28 (.slice (some ad) n c) (.slice none 0 0)).run Try.prog w = .ok (.bool false) w := fun _ => rfl
    have hal := hr.alloc (Nat.le_refl _) (.cells #[] 5)
    clear hlen hr
    go_enter Try.func24, Try.ntmps24
    go_wp2_with (at_builtin; refine wpList_append_reads _ rfl (.tmp 5) (.tmp 6) 28 rfl w.heap.size 5 i0 (.int .u8 0) 1 Try.underlying28 hi hz0 hz1 hz2 rfl (.slice (some ⟨w.heap.size, 0, none⟩) 0 0) 0 [] rfl (own_empty _ _) (some ad) n c w.heap.size _ rfl (fun e => by cases e) hal hone (by unfold maxLen; omega) (by omega) (by simp) ?_; intro v3 w3 ho3 hg3)
    go_ret
    exact ⟨_, rfl, by simpa using ho3, ((Below.refl _ w).alloc (Nat.le_refl _) _).grown hg3 (by simp) (fun k hk => by simp [Value.ownBlock] at hk; omega)⟩

set_option maxRecDepth 100000 in
set_option maxHeartbeats 4000000 in
theorem first_any (A : Option Addr) (n c s k : Nat) (xs : List UInt8) (hn : n ≤ 1073741824) (hnc : n ≤ c) (hcm : c ≤ maxLen) (hA : A = none → c = 0) (hk : k ≤ n) (w : World) (hr : Reads w w.heap.size 1 A n (xs.map bv)) :
    Calls Try.prog 25 #[fval A n c s, .int .i64 (k : Int)] w fun e w' => ∃ A' c', e = .returned (fval A' k c' (min s k)) ∧ (A' = none → c' = 0) ∧ w'.ownsRow w.heap.size 5 1 (.slice A' k c') k ((xs.take k).map bv) ∧ Below w.heap.size w w' := by
  have z1 : (w.alloc (.cells #[.slice A n c, .int .i64 (s : Int)] 54)).heap.size = w.heap.size + 1 := by simp
  have h1 := one_new w (.cells #[.slice A n c, .int .i64 (s : Int)] 54)
  have h2 := one_new (w.alloc (.cells #[.slice A n c, .int .i64 (s : Int)] 54)) (.cells #[.slice none 0 0, .int .i64 0] 54)
  rw [z1] at h2
  have e1 := (Below.heap_alloc (w.alloc (.cells #[.slice A n c, .int .i64 (s : Int)] 54)) (.cells #[.slice none 0 0, .int .i64 0] 54) w.heap.size (by rw [z1]; omega)).trans h1
  have HB1 : Hid (Below w.heap.size w ((w.alloc (.cells #[.slice A n c, .int .i64 (s : Int)] 54)).alloc (.cells #[.slice none 0 0, .int .i64 0] 54))) := ((Below.refl _ _).alloc (Nat.le_refl _) _).alloc (by rw [z1]; omega) _
  obtain ⟨w1, hw1⟩ : ∃ x, x = (w.alloc (.cells #[.slice A n c, .int .i64 (s : Int)] 54)).alloc (.cells #[.slice none 0 0, .int .i64 0] 54) := ⟨_, rfl⟩
  have HW1 := Lib.hid hw1
  rw [← hw1] at h2 e1 HB1
  have HOB := Lib.hid h2
  have HOL : Hid (w.heap.size + 1 < w1.heap.size) := lt_heapv h2
  have HSZ : Hid (w.heap.size ≤ w1.heap.size) := HB1.out.size
  have hl1 := lt_heapv e1
  have HC0 : Hid (∀ v : World, (∀ j : Nat, j < w1.heap.size → j ≠ w.heap.size + 1 → v.heap[j]? = w1.heap[j]?) → v.cell? ⟨w.heap.size, 0, none⟩ = some (.slice A n c)) := fun v hv => at_cell (i := 0) ((hv w.heap.size hl1 (by omega)).trans e1) rfl
  have HC1 : Hid (∀ v : World, (∀ j : Nat, j < w1.heap.size → j ≠ w.heap.size + 1 → v.heap[j]? = w1.heap[j]?) → v.cell? ⟨w.heap.size, 1, none⟩ = some (.int .i64 (s : Int))) := fun v hv => at_cell (i := 1) ((hv w.heap.size hl1 (by omega)).trans e1) rfl
  have hk0 : (0 : Int) ≤ (k : Int) := by omega
  have hkc : (k : Int) ≤ (c : Int) := by omega
  have HSL : Hid (∀ W : World, (Instr.sliceAt 28 (.slice A n c) none (some (.int .i64 (k : Int))) none).run Try.prog W = .ok (.slice A k c) W) := fun W => by
    cases A with
    | none =>
      have hc0 := hA rfl
      have hk2 : k = 0 := by omega
      subst hc0
      subst hk2
      rfl
    | some ad => go_simp
  have HA0 := Lib.hid hA
  have HRD : Hid (∀ v : World, Below w1.heap.size w1 v → Reads v v.heap.size 1 A k ((xs.take k).map bv)) := fun v hv => by
    have h3 := (hr.below HB1.out).below (hv.mono HSZ.out)
    have h4 : Reads v w.heap.size 1 A k ((xs.take k).map bv) := by
      refine ⟨by rw [List.length_map, List.length_take]; have := h3.1; simp at this; omega, fun h0 => ?_⟩
      obtain ⟨ad, ea, hb, hc⟩ := h3.2 (by omega)
      refine ⟨ad, ea, hb, fun j u hu => hc j u ?_⟩
      rw [List.map_take, List.getElem?_take] at hu
      split at hu
      · exact hu
      · cases hu
    exact h4.more (by have := HSZ.out; have := hv.size; omega)
  clear hw1 h1 h2 e1 z1 hl1 hr
  unfold fval
  go_enter Try.func25, Try.ntmps25
  go_wp2
  refine wp_region_held (S := fun v => ∀ j : Nat, j < w1.heap.size → j ≠ w.heap.size + 1 → v.heap[j]? = w1.heap[j]?) (by kernel_rfl) (show wpAnyH _ _ _ _ _ _ _ _ (((w.alloc (.cells #[.slice A n c, .int .i64 (s : Int)] 54)).alloc (.cells #[.slice none 0 0, .int .i64 0] 54)).drew) from ?_)
  rw [← HW1.out]
  have ONLY : Hid (∀ j : Nat, j < w1.heap.size → j ≠ w.heap.size + 1 → w1.drew.heap[j]? = w1.heap[j]?) := fun _ _ _ => rfl
  have HD : Hid (Below w1.heap.size w1 w1.drew) := (Below.refl _ w1).drew
  obtain ⟨w2, hw2⟩ : ∃ x, x = w1.drew := ⟨_, rfl⟩
  rw [← hw2] at ONLY HD ⊢
  clear hw2
  refine h_take 0 (.pointer (some ⟨w.heap.size, 0, none⟩)) rfl (by kernel_rfl) (by kernel_rfl) (by kernel_rfl) (fun _ _ _ h => h) (by kernel_rfl) ONLY.out (by intro v hv; go_simp) ?_
  refine h_take 1 (.slice A n c) rfl (by kernel_rfl) (by kernel_rfl) (by kernel_rfl) (fun _ _ _ h => h) (by kernel_rfl) ONLY.out (by intro v hv; have z0 := HC0.out v hv; go_simp) ?_
  refine h_take 2 (.int .i64 (k : Int)) rfl (by kernel_rfl) (by kernel_rfl) (by kernel_rfl) (fun _ _ _ h => h) (by kernel_rfl) ONLY.out (fun _ _ => by kernel_rfl) ?_
  refine h_take 3 (.slice A k c) rfl (by kernel_rfl) (by kernel_rfl) (by kernel_rfl) (fun _ _ _ h => h) (by kernel_rfl) ONLY.out (by intro v _; have z0 := HSL.out v; go_simp) ?_
  refine h_take 5 (.pointer (some ⟨w.heap.size, 1, none⟩)) rfl (by kernel_rfl) (by kernel_rfl) (by kernel_rfl) (fun _ _ _ h => h) (by kernel_rfl) ONLY.out (by intro v hv; go_simp) ?_
  refine h_take 6 (.int .i64 (s : Int)) rfl (by kernel_rfl) (by kernel_rfl) (by kernel_rfl) (fun _ _ _ h => h) (by kernel_rfl) ONLY.out (by intro v hv; have z0 := HC1.out v hv; go_simp) ?_
  refine h_take 7 (.int .i64 (k : Int)) rfl (by kernel_rfl) (by kernel_rfl) (by kernel_rfl) (fun _ _ _ h => h) (by kernel_rfl) ONLY.out (fun _ _ => by kernel_rfl) ?_
  refine h_take 8 (.int .i64 (min (s : Int) (k : Int))) rfl (by kernel_rfl) (by kernel_rfl) (by kernel_rfl) (fun _ _ _ h => h) (by kernel_rfl) ONLY.out (by intro v hv; go_simp; split <;> omega) ?_
  refine h_one 4 rfl (by kernel_rfl) (by kernel_rfl) (fun K hK => ?_)
  go_simp
  refine (bclone_any A k c (xs.take k) (by omega) HA0.out w2 (HRD.out w2 HD.out)).mono ?_
  rintro e w3 ⟨v3, rfl, ho3, hb3⟩
  obtain ⟨A3, c3, rfl, hA3⟩ := own_slice ho3
  have ONLY3 : Hid (∀ j : Nat, j < w1.heap.size → j ≠ w.heap.size + 1 → w3.heap[j]? = w1.heap[j]?) := fun j h1 h2 => (hb3.block j (Nat.lt_of_lt_of_le h1 HD.out.size)).trans (ONLY.out j h1 h2)
  have HB3 := Lib.hid (HD.out.trans (hb3.mono HD.out.size))
  have HO3 := Lib.hid (own_less ho3 HD.out.size)
  have hnew3 := (HB3.out.block _ HOL.out).trans HOB.out
  have fz0 := at_frozen (i := 0) hnew3
  have fz1 := at_frozen (i := 1) hnew3
  have k0 := at_cell (i := 0) hnew3 rfl
  have k1 := at_cell (i := 1) hnew3 rfl
  have HS1 := Lib.hid (set_grown hnew3 (i := 0) (.slice A3 k c3))
  have HS2 := Lib.hid (set_grown HS1.out.1 (i := 1) (.int .i64 (min (s : Int) (k : Int))))
  clear ho3 hb3 hnew3
  refine hK _ _ ONLY3.out ?_
  clear hK K
  refine h_take 9 (.agg #[.slice A3 k c3, .int .i64 (min (s : Int) (k : Int))]) rfl (by kernel_rfl) (by kernel_rfl) (by kernel_rfl) (fun _ _ _ h => h) (by kernel_rfl) ONLY3.out (by intro v hv; go_simp) ?_
  refine h_one 10 rfl (by kernel_rfl) (by kernel_rfl) (fun K hK => ?_)
  go_simp
  refine hK _ _ ?_ ?_
  · intro j h1 h2
    exact (HS2.out.2.block j (Nat.lt_of_lt_of_le h1 (Nat.le_trans HB3.out.size HS1.out.2.size)) (fun e => h2 (Option.some.inj e))).trans ((HS1.out.2.block j (Nat.lt_of_lt_of_le h1 HB3.out.size) (fun e => h2 (Option.some.inj e))).trans (ONLY3.out j h1 h2))
  clear hK K
  refine wpAnyH_done (by kernel_rfl) ?_ _
  go_simp
  go_wp2
  have r0 := at_cell (i := 0) HS2.out.1 rfl
  have r1 := at_cell (i := 1) HS2.out.1 rfl
  refine bodyPost_ret (v := .agg #[.slice A3 k c3, .int .i64 (min (s : Int) (k : Int))]) (by simp [results, Try.results25, go_sem, r0, r1]) rfl ?_
  have hmin : (min (s : Int) (k : Int)) = ((min s k : Nat) : Int) := by omega
  refine ⟨A3, c3, by rw [hmin], hA3, ?_, ?_⟩
  · have h1 := HO3.out.kept HS1.out.2 (.inr (fun e => by have := own_block HO3.out _ e; have := HOL.out; omega))
    have h2 := h1.kept HS2.out.2 (.inr (fun e => by have := own_block HO3.out _ e; have := HOL.out; omega))
    exact own_less h2 HSZ.out
  · exact ((HB1.out.trans (HB3.out.mono HB1.out.size)).grown HS1.out.2 (by have := HB1.out.size; have := HB3.out.size; omega) (fun j hj => by cases hj; omega)).grown HS2.out.2 (by have := HB1.out.size; have := HB3.out.size; have := HS1.out.2.size; omega) (fun j hj => by cases hj; omega)

end Go.Proofs.Ytfgonihpakcbbaa
