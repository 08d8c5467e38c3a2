/- The writer as it lies; number. -/
import Derived.Test.YtfdncdejjlcgpaaP
import Derived.Test.YtfdncdejjlcgpaaBb
import Derived.Test.YtfdncdejjlcgpaaIbf
import Derived.Test.YtfdncdejjlcgpaaRza
import Derived.Test.YtfdncdejjlcgpaaH3
namespace Go.Proofs.Ytfdncdejjlcgpaa
open Go.RowKit

/-- The writer as it lies in memory; its own blocks are in S. -/
def Wr (w : World) (S : Nat → Prop) (bw : Nat) (ver : Int) (bt : Nat) (out : List UInt8) : Prop :=
  S bw ∧ ∃ va, w.heap[bw]? = some (.cells #[.int .i64 ver, .pointer (some ⟨bt, 0, none⟩), va] 87 (0, 0)) ∧ w.ownsRow 0 5 1 va out.length (out.map bv) ∧ (∀ k, va.ownBlock = some k → S k)

/-- A row of bytes put behind the writer's. -/
theorem wr_step {w w2 w3 : World} {S : Nat → Prop} {bw bt : Nat} {ver : Int} {out xs : List UInt8} {va v' : Value} (hSb : S bw) (hh : w.heap[bw]? = some (.cells #[.int .i64 ver, .pointer (some ⟨bt, 0, none⟩), va] 87 (0, 0))) (hown : w.ownsRow 0 5 1 va out.length (out.map bv)) (hs : ∀ k, va.ownBlock = some k → S k) (hS : ∀ k, w.heap.size ≤ k → S k)
    (hb : Below w.heap.size w w2) (ho : w3.ownsRow 0 5 1 v' (out.length + xs.length) (out.map bv ++ xs.map bv)) (hg : w2.grownBy w3 va.ownBlock) (hv : v'.ownBlock = va.ownBlock ∨ v'.ownBlock = some w2.heap.size) :
    Wr (w3.setCell ⟨bw, 2, none⟩ v') S bw ver bt (out ++ xs) ∧ Turn S w (w3.setCell ⟨bw, 2, none⟩ v') ∧ w3.heap[bw]? = some (.cells #[.int .i64 ver, .pointer (some ⟨bt, 0, none⟩), va] 87 (0, 0)) := by
  have hlt : bw < w.heap.size := by
    rcases Nat.lt_or_ge bw w.heap.size with h | h
    · exact h
    · rw [Array.getElem?_eq_none h] at hh; cases hh
  rw [← List.length_append, ← List.map_append] at ho
  have hne : va.ownBlock ≠ some bw := own_cells hown hh (by decide)
  have h2 := (hb.block bw hlt).trans hh
  have h3 := (hg.block bw (Nat.lt_of_lt_of_le hlt hb.size) (fun h => hne h.symm)).trans h2
  have hne' : v'.ownBlock ≠ some bw := own_cells ho h3 (by decide)
  refine ⟨⟨hSb, v', ?_, ownsRow_setCell_other ho hne' _, fun k hk => ?_⟩, (((Turn.of_below hb).grown hg (fun i hi _ => hs i hi)).setCell _ _ _ hSb), h3⟩
  · exact set_same h3 2 v'
  · rcases hv with h | h
    · exact hs k (h ▸ hk)
    · rw [h] at hk
      obtain rfl : w2.heap.size = k := by simpa using hk
      exact hS _ hb.size

theorem own_lax {w w2 : World} {n : Nat} {v : Value} {xs : List UInt8} (h : w.ownsRow 0 5 1 v n (xs.map bv)) (hb : Below w.heap.size w w2) : w2.ownsRow 0 5 1 v n (xs.map bv) := own_below h hb

set_option maxRecDepth 100000 in
set_option maxHeartbeats 1000000 in
theorem number_w (S : Nat → Prop) (bw bt k : Nat) (ver : Int) (out : List UInt8) (hk : k < top) (hbig : out.length ≤ 1000000000) (w : World) (hS : ∀ k, w.heap.size ≤ k → S k) (h : Wr w S bw ver bt out) :
    Calls Try.prog 73 #[.pointer (some ⟨bw, 0, none⟩), .int .u64 (k : Int)] w fun e w' => e = .returned (.tuple #[]) ∧ Wr w' S bw ver bt (out ++ (vb k)) ∧ Turn S w w' := by
  obtain ⟨i0, ii0, iz0, iz1, iz2⟩ := info_parts info5
  obtain ⟨hSb, va, hh, hown, hs⟩ := h
  have q0 := at_cell (i := 0) hh rfl
  have q2 := at_cell (i := 2) hh rfl
  have HP := Lib.hid (fun W => put_nil k hk W)
  have HVB : Hid ((vb k).length ≤ 10) := vb_len k hk
  have HH := Lib.hid hh
  have HO := Lib.hid hown
  have HBIG := Lib.hid hbig
  have FIN : Hid (∀ {w2 w3 : World} {v' : Value} {xs : List UInt8}, Below w.heap.size w w2 → w3.ownsRow 0 5 1 v' (out.length + xs.length) (out.map bv ++ xs.map bv) → w2.grownBy w3 va.ownBlock → (v'.ownBlock = va.ownBlock ∨ v'.ownBlock = some w2.heap.size) → Wr (w3.setCell ⟨bw, 2, none⟩ v') S bw ver bt (out ++ xs) ∧ Turn S w (w3.setCell ⟨bw, 2, none⟩ v') ∧ w3.heap[bw]? = some (.cells #[.int .i64 ver, .pointer (some ⟨bt, 0, none⟩), va] 87 (0, 0))) := wr_step hSb hh hown hs hS
  have HLT : Hid (bw < w.heap.size) := by
    show _ < _
    rcases Nat.lt_or_ge bw w.heap.size with h | h
    · exact h
    · rw [Array.getElem?_eq_none h] at hh; cases hh
  clear hh hown hbig hs hS hSb
  go_enter Try.func73, Try.ntmps73
  refine wp_region_held (S := fun _ => True) (by kernel_rfl) ?_
  refine h_take 0 (.pointer (some ⟨bw, 0, none⟩)) rfl (by kernel_rfl) (by kernel_rfl) (by kernel_rfl) (fun _ _ _ h => h) (by kernel_rfl) trivial (fun _ _ => by kernel_rfl) ?_
  refine h_take 1 (.pointer (some ⟨bw, 0, none⟩)) rfl (by kernel_rfl) (by kernel_rfl) (by kernel_rfl) (fun _ _ _ h => h) (by kernel_rfl) trivial (fun _ _ => by kernel_rfl) ?_
  refine h_take 2 (.pointer (some ⟨bw, 0, none⟩)) rfl (by kernel_rfl) (by kernel_rfl) (by kernel_rfl) (fun _ _ _ h => h) (by kernel_rfl) trivial (fun _ _ => by kernel_rfl) ?_
  refine h_take 3 (.pointer (some ⟨bw, 2, none⟩)) rfl (by kernel_rfl) (by kernel_rfl) (by kernel_rfl) (fun _ _ _ h => h) (by kernel_rfl) trivial (fun _ _ => by kernel_rfl) ?_
  refine h_take 5 (.int .u64 (k : Int)) rfl (by kernel_rfl) (by kernel_rfl) (by kernel_rfl) (fun _ _ _ h => h) (by kernel_rfl) trivial (fun _ _ => by kernel_rfl) ?_
  refine h_either 4 6 rfl rfl (by kernel_rfl) (by kernel_rfl) (by kernel_rfl) (fun K hK => ?_) (fun K hK => ?_)
  · go_simp
    refine hK _ _ trivial ?_
    clear hK K
    refine h_one 6 rfl (by kernel_rfl) (by kernel_rfl) (fun K hK => ?_)
    go_simp
    refine (HP.out _).mono ?_
    rintro e w2 ⟨v2, rfl, ho2, hb2⟩
    have HB2 : Below w.heap.size w w2 := ((Below.refl _ w).drew).trans hb2
    refine hK _ _ trivial ?_
    clear hK K
    refine h_one 7 rfl (by kernel_rfl) (by kernel_rfl) (fun K hK => ?_)
    obtain ⟨A2, c2, rfl, hc2⟩ := own_slice ho2
    refine wp_append_many (.tmp 8) (.tmp 10) 44 rfl 0 5 i0 _ 1 1 Try.underlying44 ii0 iz0 iz1 iz2 rfl (by decide) va out.length (out.map bv) rfl (own_lax HO.out HB2) A2 (vb k).length c2 w2.heap.size ((vb k).map bv) rfl hc2 (Reads.of_own ho2) (bv_one _) (by have h1 := HBIG.out; have h2 := HVB.out; unfold maxLen; omega) (by have h1 := HBIG.out; have h2 := HVB.out; omega) (by omega) ?_
    intro v3 w3 ho3 hg3 hv3
    obtain ⟨hf1, hf2, hf3⟩ := FIN.out HB2 ho3 hg3 hv3
    obtain ⟨A3, c3, rfl, _⟩ := own_slice ho3
    refine hK _ _ trivial ?_
    clear hK K
    refine h_take 8 (.pointer (some ⟨bw, 0, none⟩)) rfl (by kernel_rfl) (by kernel_rfl) (by kernel_rfl) (fun _ _ _ h => h) (by kernel_rfl) trivial (fun _ _ => by kernel_rfl) ?_
    refine h_take 9 (.pointer (some ⟨bw, 2, none⟩)) rfl (by kernel_rfl) (by kernel_rfl) (by kernel_rfl) (fun _ _ _ h => h) (by kernel_rfl) trivial (fun _ _ => by kernel_rfl) ?_
    refine h_one 10 rfl (by kernel_rfl) (by kernel_rfl) (fun K hK => ?_)
    have p2 := at_cell (i := 2) hf3 rfl
    have z2 := at_frozen (i := 2) hf3
    go_simp
    refine hK _ _ trivial ?_
    refine wpAnyH_done (by kernel_rfl) ?_ _
    go_simp
    go_end0
    exact ⟨rfl, hf1, hf2⟩
  · go_simp
    refine (HP.out _).mono ?_
    rintro e w2 ⟨v2, rfl, ho2, hb2⟩
    have HB2 : Below w.heap.size w w2 := ((Below.refl _ w).drew).trans hb2
    refine hK _ _ trivial ?_
    clear hK K
    refine h_one 4 rfl (by kernel_rfl) (by kernel_rfl) (fun K hK => ?_)
    have r2 := at_cell (i := 2) ((HB2.block bw HLT.out).trans HH.out) rfl
    go_simp
    refine hK _ _ trivial ?_
    clear hK K
    refine h_one 7 rfl (by kernel_rfl) (by kernel_rfl) (fun K hK => ?_)
    obtain ⟨A2, c2, rfl, hc2⟩ := own_slice ho2
    refine wp_append_many (.tmp 8) (.tmp 10) 44 rfl 0 5 i0 _ 1 1 Try.underlying44 ii0 iz0 iz1 iz2 rfl (by decide) va out.length (out.map bv) rfl (own_lax HO.out HB2) A2 (vb k).length c2 w2.heap.size ((vb k).map bv) rfl hc2 (Reads.of_own ho2) (bv_one _) (by have h1 := HBIG.out; have h2 := HVB.out; unfold maxLen; omega) (by have h1 := HBIG.out; have h2 := HVB.out; omega) (by omega) ?_
    intro v3 w3 ho3 hg3 hv3
    obtain ⟨hf1, hf2, hf3⟩ := FIN.out HB2 ho3 hg3 hv3
    obtain ⟨A3, c3, rfl, _⟩ := own_slice ho3
    refine hK _ _ trivial ?_
    clear hK K
    refine h_take 8 (.pointer (some ⟨bw, 0, none⟩)) rfl (by kernel_rfl) (by kernel_rfl) (by kernel_rfl) (fun _ _ _ h => h) (by kernel_rfl) trivial (fun _ _ => by kernel_rfl) ?_
    refine h_take 9 (.pointer (some ⟨bw, 2, none⟩)) rfl (by kernel_rfl) (by kernel_rfl) (by kernel_rfl) (fun _ _ _ h => h) (by kernel_rfl) trivial (fun _ _ => by kernel_rfl) ?_
    refine h_one 10 rfl (by kernel_rfl) (by kernel_rfl) (fun K hK => ?_)
    have p2 := at_cell (i := 2) hf3 rfl
    have z2 := at_frozen (i := 2) hf3
    go_simp
    refine hK _ _ trivial ?_
    refine wpAnyH_done (by kernel_rfl) ?_ _
    go_simp
    go_end0
    exact ⟨rfl, hf1, hf2⟩

set_option maxRecDepth 100000 in
set_option maxHeartbeats 1000000 in
theorem name_one (S : Nat → Prop) (bw bt : Nat) (t : List UInt8) (ver : Int) (hv : ver < 2) (out : List UInt8) (ht : (blob t).length ≤ 10000) (hbig : out.length ≤ 1000000000) (w : World) (hS : ∀ k, w.heap.size ≤ k → S k) (h : Wr w S bw ver bt out) :
    Calls Try.prog 72 #[.pointer (some ⟨bw, 0, none⟩), .string (tx t)] w fun e w' => e = .returned (.tuple #[]) ∧ Wr w' S bw ver bt (out ++ (blob t)) ∧ Turn S w w' := by
  obtain ⟨i0, ii0, iz0, iz1, iz2⟩ := info_parts info5
  obtain ⟨hSb, va, hh, hown, hs⟩ := h
  have q0 := at_cell (i := 0) hh rfl
  have q2 := at_cell (i := 2) hh rfl
  have HP := Lib.hid (fun W => bput_nil t (by omega) W)
  have HVB := Lib.hid ht
  have d1 : decide (ver < 2) = true := decide_eq_true hv
  have HH := Lib.hid hh
  have HO := Lib.hid hown
  have HBIG := Lib.hid hbig
  have FIN : Hid (∀ {w2 w3 : World} {v' : Value} {xs : List UInt8}, Below w.heap.size w w2 → w3.ownsRow 0 5 1 v' (out.length + xs.length) (out.map bv ++ xs.map bv) → w2.grownBy w3 va.ownBlock → (v'.ownBlock = va.ownBlock ∨ v'.ownBlock = some w2.heap.size) → Wr (w3.setCell ⟨bw, 2, none⟩ v') S bw ver bt (out ++ xs) ∧ Turn S w (w3.setCell ⟨bw, 2, none⟩ v') ∧ w3.heap[bw]? = some (.cells #[.int .i64 ver, .pointer (some ⟨bt, 0, none⟩), va] 87 (0, 0))) := wr_step hSb hh hown hs hS
  have HLT : Hid (bw < w.heap.size) := by
    show _ < _
    rcases Nat.lt_or_ge bw w.heap.size with h | h
    · exact h
    · rw [Array.getElem?_eq_none h] at hh; cases hh
  clear hh hown hbig hs hS hSb
  go_enter Try.func72, Try.ntmps72
  go_wp2_with fail
  refine wp_region_held (S := fun _ => True) (by kernel_rfl) ?_
  refine h_take 0 (.pointer (some ⟨bw, 0, none⟩)) rfl (by kernel_rfl) (by kernel_rfl) (by kernel_rfl) (fun _ _ _ h => h) (by kernel_rfl) trivial (fun _ _ => by kernel_rfl) ?_
  refine h_take 1 (.pointer (some ⟨bw, 0, none⟩)) rfl (by kernel_rfl) (by kernel_rfl) (by kernel_rfl) (fun _ _ _ h => h) (by kernel_rfl) trivial (fun _ _ => by kernel_rfl) ?_
  refine h_take 2 (.pointer (some ⟨bw, 0, none⟩)) rfl (by kernel_rfl) (by kernel_rfl) (by kernel_rfl) (fun _ _ _ h => h) (by kernel_rfl) trivial (fun _ _ => by kernel_rfl) ?_
  refine h_take 3 (.pointer (some ⟨bw, 2, none⟩)) rfl (by kernel_rfl) (by kernel_rfl) (by kernel_rfl) (fun _ _ _ h => h) (by kernel_rfl) trivial (fun _ _ => by kernel_rfl) ?_
  refine h_take 5 (.string (tx t)) rfl (by kernel_rfl) (by kernel_rfl) (by kernel_rfl) (fun _ _ _ h => h) (by kernel_rfl) trivial (fun _ _ => by kernel_rfl) ?_
  refine h_either 4 6 rfl rfl (by kernel_rfl) (by kernel_rfl) (by kernel_rfl) (fun K hK => ?_) (fun K hK => ?_)
  · go_simp
    refine hK _ _ trivial ?_
    clear hK K
    refine h_one 6 rfl (by kernel_rfl) (by kernel_rfl) (fun K hK => ?_)
    go_simp
    refine (HP.out _).mono ?_
    rintro e w2 ⟨v2, rfl, ho2, hb2⟩
    have HB2 : Below w.heap.size w w2 := ((Below.refl _ w).drew).trans hb2
    refine hK _ _ trivial ?_
    clear hK K
    refine h_one 7 rfl (by kernel_rfl) (by kernel_rfl) (fun K hK => ?_)
    obtain ⟨A2, c2, rfl, hc2⟩ := own_slice ho2
    refine wp_append_many (.tmp 13) (.tmp 15) 44 rfl 0 5 i0 _ 1 1 Try.underlying44 ii0 iz0 iz1 iz2 rfl (by decide) va out.length (out.map bv) rfl (own_lax HO.out HB2) A2 (blob t).length c2 w2.heap.size ((blob t).map bv) rfl hc2 (Reads.of_own ho2) (bv_one _) (by have h1 := HBIG.out; have h2 := HVB.out; unfold maxLen; omega) (by have h1 := HBIG.out; have h2 := HVB.out; omega) (by omega) ?_
    intro v3 w3 ho3 hg3 hv3
    obtain ⟨hf1, hf2, hf3⟩ := FIN.out HB2 ho3 hg3 hv3
    obtain ⟨A3, c3, rfl, _⟩ := own_slice ho3
    refine hK _ _ trivial ?_
    clear hK K
    refine h_take 8 (.pointer (some ⟨bw, 0, none⟩)) rfl (by kernel_rfl) (by kernel_rfl) (by kernel_rfl) (fun _ _ _ h => h) (by kernel_rfl) trivial (fun _ _ => by kernel_rfl) ?_
    refine h_take 9 (.pointer (some ⟨bw, 2, none⟩)) rfl (by kernel_rfl) (by kernel_rfl) (by kernel_rfl) (fun _ _ _ h => h) (by kernel_rfl) trivial (fun _ _ => by kernel_rfl) ?_
    refine h_one 10 rfl (by kernel_rfl) (by kernel_rfl) (fun K hK => ?_)
    have p2 := at_cell (i := 2) hf3 rfl
    have z2 := at_frozen (i := 2) hf3
    go_simp
    refine hK _ _ trivial ?_
    refine wpAnyH_done (by kernel_rfl) ?_ _
    go_simp
    go_wp2
    refine bodyPost_ret (results_none rfl _ _ _) rfl ?_
    exact ⟨rfl, hf1, hf2⟩
  · go_simp
    refine (HP.out _).mono ?_
    rintro e w2 ⟨v2, rfl, ho2, hb2⟩
    have HB2 : Below w.heap.size w w2 := ((Below.refl _ w).drew).trans hb2
    refine hK _ _ trivial ?_
    clear hK K
    refine h_one 4 rfl (by kernel_rfl) (by kernel_rfl) (fun K hK => ?_)
    have r2 := at_cell (i := 2) ((HB2.block bw HLT.out).trans HH.out) rfl
    go_simp
    refine hK _ _ trivial ?_
    clear hK K
    refine h_one 7 rfl (by kernel_rfl) (by kernel_rfl) (fun K hK => ?_)
    obtain ⟨A2, c2, rfl, hc2⟩ := own_slice ho2
    refine wp_append_many (.tmp 13) (.tmp 15) 44 rfl 0 5 i0 _ 1 1 Try.underlying44 ii0 iz0 iz1 iz2 rfl (by decide) va out.length (out.map bv) rfl (own_lax HO.out HB2) A2 (blob t).length c2 w2.heap.size ((blob t).map bv) rfl hc2 (Reads.of_own ho2) (bv_one _) (by have h1 := HBIG.out; have h2 := HVB.out; unfold maxLen; omega) (by have h1 := HBIG.out; have h2 := HVB.out; omega) (by omega) ?_
    intro v3 w3 ho3 hg3 hv3
    obtain ⟨hf1, hf2, hf3⟩ := FIN.out HB2 ho3 hg3 hv3
    obtain ⟨A3, c3, rfl, _⟩ := own_slice ho3
    refine hK _ _ trivial ?_
    clear hK K
    refine h_take 8 (.pointer (some ⟨bw, 0, none⟩)) rfl (by kernel_rfl) (by kernel_rfl) (by kernel_rfl) (fun _ _ _ h => h) (by kernel_rfl) trivial (fun _ _ => by kernel_rfl) ?_
    refine h_take 9 (.pointer (some ⟨bw, 2, none⟩)) rfl (by kernel_rfl) (by kernel_rfl) (by kernel_rfl) (fun _ _ _ h => h) (by kernel_rfl) trivial (fun _ _ => by kernel_rfl) ?_
    refine h_one 10 rfl (by kernel_rfl) (by kernel_rfl) (fun K hK => ?_)
    have p2 := at_cell (i := 2) hf3 rfl
    have z2 := at_frozen (i := 2) hf3
    go_simp
    refine hK _ _ trivial ?_
    refine wpAnyH_done (by kernel_rfl) ?_ _
    go_simp
    go_wp2
    refine bodyPost_ret (results_none rfl _ _ _) rfl ?_
    exact ⟨rfl, hf1, hf2⟩

end Go.Proofs.Ytfdncdejjlcgpaa
