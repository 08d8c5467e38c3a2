/- The walks of blob.List and blob.Put: behind any bytes, any texts. -/
import Derived.Test.YtfdncdejjlcgpaaP
import Derived.Test.YtfdncdejjlcgpaaBk
namespace Go.Proofs.Ytfdncdejjlcgpaa
open Go.RowKit Go.Shelf
attribute [local go_sem] Oper.semAt_some

/-- At the head of a round of List's loop: so many texts have been laid. -/
def LRel (w : World) (bs : List UInt8) (ts : List (List UInt8)) (v idx : Value) (wr : World) : Prop :=
  ∃ i, i ≤ ts.length ∧ idx = .int .i64 (i : Int) ∧ wr.ownsRow w.heap.size 5 1 v (bs ++ blobs (ts.take i)).length ((bs ++ blobs (ts.take i)).map bv) ∧ Below w.heap.size w wr

set_option maxRecDepth 100000 in
set_option maxHeartbeats 400000 in
theorem list_any (A L : Option Addr) (n c m d B : Nat) (bs : List UInt8) (ts : List (List UInt8)) (hbig : n + (blobs ts).length ≤ 1073741824) (hm : m ≤ 1073741824) (w : World) (hB : B ≤ w.heap.size) (hr : Reads w B 1 A n (bs.map bv)) (hl : Reads w B 1 L m (ts.map sv)) :
    Calls Try.prog 92 #[.slice A n c, .slice L m d] w fun e w' => ∃ v, e = .returned v ∧ w'.ownsRow w.heap.size 5 1 v (bs ++ blobs ts).length ((bs ++ blobs ts).map bv) ∧ Below w.heap.size w w' := by
  obtain ⟨i0, hi0, hz0, hz1, hz2⟩ := info_parts info5
  have hnl : bs.length = n := by have := hr.1; simpa using this
  have hml : ts.length = m := by have := hl.1; simpa using this
  have HCL := Lib.hid (clone_any A n c B bs (by omega) w hB hr)
  have HNL := Lib.hid hnl
  have HML := Lib.hid hml
  have HBIG := Lib.hid hbig
  clear hnl hml hbig hr
  go_enter Try.func92, Try.ntmps92
  go_wp2_with (go_at_call 76; refine HCL.out.mono ?_; rintro e w1 ⟨v1, rfl, ho1, hb1⟩)
  go_loopw [5, 12] (fun v idx wr => LRel w bs ts v idx wr) (fun v idx wr => m - (intOf idx).toNat)
  case atStart => exact ⟨0, by omega, rfl, by simpa [blobs, HNL.out] using ho1, hb1⟩
  case round =>
    obtain ⟨i, hi, rfl, ho, hb⟩ := hrel
    rw [HML.out] at hi
    obtain ⟨q, hq⟩ : ∃ q, q = bs ++ blobs (ts.take i) := ⟨_, rfl⟩
    rw [← hq] at ho
    have HQ := Lib.hid hq
    clear hq
    by_cases hlt : i < m
    · obtain ⟨ad, u, rfl, hadb, hx, hcell0⟩ := hl.at_ hlt
      obtain ⟨x, rfl, hxi⟩ := text_at hx
      have hcell := (hb.cell (p := ad.add i) (by rw [block_of_add]; omega)).trans hcell0
      have hfit : q.length + (blob x).length ≤ 1073741824 := by
        have h1 := blobs_one_le hxi
        have h2 := HBIG.out
        have h3 := HNL.out
        rw [HQ.out, List.length_append]; omega
      have HXI := Lib.hid hxi
      rw [blob_len] at hfit
      obtain ⟨k, hk⟩ : ∃ k, k = x.length := ⟨_, rfl⟩
      have hsz : (tx x).size = k := by rw [tx_size, hk]
      have hst := strCells_tx x
      rw [← hk] at hfit
      have hput : Hid (∀ W : World, Calls Try.prog 87 #[.slice none 0 0, .int .u64 (k : Int)] W fun e w' => ∃ a2 c2, e = .returned (.slice (some a2) (vb k).length c2) ∧ ((vb k).map bv).length = (vb k).length * 1 ∧ (∀ j u, ((vb k).map bv)[j]? = some u → w'.cell? (a2.add j) = some u) ∧ Below W.heap.size W w') := by
        intro W
        refine (put_nil k (by unfold top; omega) W).mono ?_
        rintro e w' ⟨v, rfl, ho, hb⟩
        obtain ⟨A2, c2, rfl, _, hr2⟩ := own_reads ho
        obtain ⟨a2, rfl, _, hc2⟩ := hr2.2 (vb_pos k)
        exact ⟨a2, c2, rfl, hr2.1, hc2, hb⟩
      obtain ⟨s, hs⟩ : ∃ s, s = tx x := ⟨_, rfl⟩
      rw [← hs] at hcell hsz hst
      have hw1 : IntKind.u64.wrap (k : Int) = (k : Int) := by rw [IntKind.wrap_u64]; omega
      obtain ⟨lk, hlk⟩ : ∃ lk, lk = (vb k).length := ⟨_, rfl⟩
      rw [← hlk] at hput hfit
      have HK := Lib.hid hk
      have HLK := Lib.hid hlk
      have HST := Lib.hid hst
      clear hcell0 hx hxi hadb hs hk hlk hst
      go_wp2_with (first
        | (go_at_call 87; refine (hput.out _).mono ?_; rintro e w2 ⟨a2, c2, rfl, hl2, hc2, hb2⟩)
        | (at_builtin; refine wpList_append_own _ rfl _ _ 44 rfl w.heap.size 5 i0 (.int .u8 0) 1 1 Try.underlying44 hi0 hz0 hz1 hz2 rfl (by decide) _ _ _ rfl (own_below ho hb2) a2 lk c2 _ rfl hl2 hc2 (bv_one _) (by unfold maxLen; omega) (by omega) (by have := hb.size; have := hb2.size; omega) ?_; intro v3 w3 ho3 hgrow3 _)
        | (at_builtin; refine Lib.wpList_append_own_string _ rfl _ _ 44 9 rfl w.heap.size 5 i0 Try.underlying44 Try.underlying9 hi0 hz0 hz1 hz2 v3 _ _ rfl ho3 s rfl (by rw [hsz]; unfold maxLen; omega) (by rw [hsz]; omega) (by have := hb.size; have := hb2.size; have := hgrow3.size; omega) ?_; intro v4 w4 ho4 hgrow4 _))
      have e1 : bs ++ blobs (ts.take (i + 1)) = q ++ blob x := by rw [blobs_succ HXI.out, ← List.append_assoc, ← HQ.out]
      have hbl : blob x = vb k ++ x := by rw [blob, ← HK.out]
      have hb3 : Below w.heap.size w w2 := hb.trans (hb2.mono hb.size)
      have hb4 := (hb3.grown hgrow3 hb3.size (own_block ho)).grown hgrow4 (by have := hb3.size; have := hgrow3.size; omega) (own_block ho3)
      refine ⟨⟨i + 1, by rw [HML.out]; omega, by go_num, ?_, hb4⟩, by simp [intOf]; omega⟩
      rw [e1, hbl]
      have e2 : (q ++ (vb k ++ x)).length = q.length + lk + k := by simp [HLK.out, HK.out, Nat.add_assoc]
      have e3 : (q ++ (vb k ++ x)).map bv = q.map bv ++ (vb k).map bv ++ x.map bv := by simp
      rw [e2, e3, ← HST.out]
      rw [hsz] at ho4
      exact ho4
    · obtain rfl : i = m := by omega
      have hall : ts.take i = ts := List.take_of_length_le (by rw [HML.out]; omega)
      rw [HQ.out, hall] at ho
      go_wp2
      go_ret
      exact ⟨_, rfl, ho, hb⟩

set_option maxRecDepth 100000 in
set_option maxHeartbeats 400000 in
/-- blob.Put: the blob behind any bytes. -/
theorem bput_any (A : Option Addr) (n c B : Nat) (bs t : List UInt8) (hbig : n + (blob t).length ≤ 1073741824) (w : World) (hB : B ≤ w.heap.size) (hr : Reads w B 1 A n (bs.map bv)) :
    Calls Try.prog 86 #[.slice A n c, .string (tx t)] w fun e w' => ∃ v, e = .returned v ∧ w'.ownsRow w.heap.size 5 1 v (bs ++ blob t).length ((bs ++ blob t).map bv) ∧ Below w.heap.size w w' := by
  have hlist : ∀ W, W = w.alloc (.cells #[.string (tx t)] 9) → Calls Try.prog 92 #[.slice A n c, .slice (some ⟨w.heap.size, 0, none⟩) 1 1] W fun e w' => ∃ v, e = .returned v ∧ w'.ownsRow W.heap.size 5 1 v (bs ++ blob t).length ((bs ++ blob t).map bv) ∧ Below W.heap.size W w' := by
    rintro W rfl
    have := list_any A (some ⟨w.heap.size, 0, none⟩) n c 1 1 (w.heap.size + 1) bs [t] (by simpa [blobs] using hbig) (by omega) (w.alloc (.cells #[sv t] 9)) (by simp) ((hr.alloc hB _).more (by omega)) (reads_text w 9 t)
    simp only [blobs, List.append_nil] at this
    exact this
  have HLIST := Lib.hid hlist
  clear hlist
  obtain ⟨z, hz⟩ : ∃ z, z = bs ++ blob t := ⟨_, rfl⟩
  rw [← hz] at HLIST ⊢
  clear hz hbig hr
  obtain ⟨s, hs⟩ : ∃ s, s = tx t := ⟨_, rfl⟩
  rw [← hs] at HLIST ⊢
  clear hs
  go_enter Try.func86, Try.ntmps86
  go_wp2_with (go_at_call 92; refine (HLIST.out _ rfl).mono ?_; rintro e w1 ⟨v1, rfl, ho1, hb1⟩)
  go_ret
  refine ⟨_, rfl, ?_, ((Below.refl _ w).alloc (Nat.le_refl _) _).trans (hb1.mono (by simp))⟩
  obtain ⟨h1, h2 | ⟨g, cap, cur, hv, hbg, r⟩⟩ := ho1
  · exact ⟨h1, .inl h2⟩
  · exact ⟨h1, .inr ⟨g, cap, cur, hv, by simp at hbg; omega, r⟩⟩

theorem bput_nil (t : List UInt8) (hbig : (blob t).length ≤ 1073741824) (w : World) :
    Calls Try.prog 86 #[.slice none 0 0, .string (tx t)] w fun e w' => ∃ v, e = .returned v ∧ w'.ownsRow w.heap.size 5 1 v (blob t).length ((blob t).map bv) ∧ Below w.heap.size w w' :=
  bput_any none 0 0 w.heap.size [] t (by omega) w (Nat.le_refl _) Reads.none_

end Go.Proofs.Ytfdncdejjlcgpaa
