/- The walk of CursorBack. -/
import Derived.Test.YtkpgnpiofhgcpaaJx
import Derived.Test.YtkpgnpiofhgcpaaH2
import Derived.Test.YtkpgnpiofhgcpaaH3
import Derived.Laws.BytesArg
namespace Go.Proofs.Ytkpgnpiofhgcpaa
open Go.RowKit

theorem reads_text_row (W : World) (bs : List UInt8) (cap : Nat) (fr : Nat × Nat) (B : Nat) (hB : W.heap.size < B) :
    Reads (W.alloc (.cells (bytesRow (tx bs) cap) 5 fr)) B 1 (some ⟨W.heap.size, 0, none⟩) bs.length (bs.map bv) :=
  ⟨by simp, fun _ => ⟨_, rfl, hB, fun j u hu => by
    have h0 : Addr.add ⟨W.heap.size, 0, none⟩ j = ⟨W.heap.size, j, none⟩ := by
      unfold Addr.add
      split
      · rename_i h; rw [h]
      · simp
    have hj : j < bs.length := by
      have := (List.getElem?_eq_some_iff.1 hu).1
      simpa using this
    rw [h0]
    simp only [World.cell?, World.alloc, Array.getElem?_push_size]
    rw [bytesRow_at (tx bs) cap j (by simpa [tx] using hj)]
    rw [List.getElem?_map, List.getElem?_eq_getElem hj] at hu
    have hu' : bv bs[j] = u := by simpa using hu
    rw [← hu']
    rfl⟩⟩

/-- New over '[]byte(s)', from the first byte on. -/
theorem new_text (bs : List UInt8) (hn : bs.length ≤ 1000000) (W X : World)
    (hX : X = W.drew.alloc (.cells (bytesRow (tx bs) (grownCap W (tx bs).size 0 5)) 5 ((bytesRow (tx bs) (grownCap W (tx bs).size 0 5)).size, (bytesRow (tx bs) (grownCap W (tx bs).size 0 5)).size + 1))) :
    Calls Try.prog 7 #[.slice (some ⟨W.heap.size, 0, none⟩) (tx bs).size (grownCap W (tx bs).size 0 5), .int .i64 0] X fun e w' => ∃ b, e = .returned (.pointer (some ⟨b, 0, none⟩)) ∧ W.heap.size ≤ b ∧ CurIn w' b b ⟨bs, 0, 0⟩ ∧ Below W.heap.size W w' := by
  generalize grownCap W (tx bs).size 0 5 = cap at hX ⊢
  generalize ((bytesRow (tx bs) cap).size, (bytesRow (tx bs) cap).size + 1) = fr at hX
  rw [tx_size]
  have hb : Below W.heap.size W X := by rw [hX]; exact (Below.refl _ W).drew.alloc (by simp) _
  have hs : X.heap.size = W.heap.size + 1 := by rw [hX]; simp
  have hr : Reads X X.heap.size 1 (some ⟨W.heap.size, 0, none⟩) bs.length (bs.map bv) := by
    have := reads_text_row W.drew bs cap fr X.heap.size (by rw [hs]; simp)
    rw [hX] at this ⊢
    exact this
  have h := new_any (some ⟨W.heap.size, 0, none⟩) bs.length cap 0 bs hn X hr
  rw [Cu.new, new_zero] at h
  refine h.mono ?_
  rintro e w' ⟨b, he, h1, h2, h3⟩
  exact ⟨b, he, by omega, h2, hb.trans (h3.mono hb.size)⟩

/-- At the head of a round: none so far is longer than 60 bytes. -/
def BKRel (ts : List (List UInt8)) (w : World) (idx : Value) (wr : World) : Prop := ∃ i : Nat, i ≤ ts.length ∧ idx = .int .i64 (i : Int) ∧ Hid (∀ t ∈ ts.take i, t.length ≤ 60) ∧ w = wr

set_option maxRecDepth 100000 in
set_option maxHeartbeats 1600000 in
theorem back_short (L A : Option Addr) (m d n cap : Nat) (ts : List (List UInt8)) (ns : List Nat) (hm : m ≤ 30) (hn : n ≤ 30) (hlt : ∀ x ∈ ns, x < top) (w : World) (hl : Reads w w.heap.size 1 L m (ts.map sv)) (hr : Reads w w.heap.size 1 A n (ns.map nv)) :
    Calls Try.prog 5 #[.slice L m d, .slice A n cap] w fun e w' => e = .returned (.bool true) ∧ Below w.heap.size w w' := by
  have htl : ts.length = m := by have := hl.1; simpa using this
  have HL := Lib.hid hl
  have HR := Lib.hid hr
  have HTL := Lib.hid htl
  have HLT := Lib.hid hlt
  clear hl hr htl hlt
  go_enter Try.func5, Try.ntmps5
  go_wp2
  go_loopw [21] (fun idx wr => BKRel ts w idx wr) (fun idx _ => m - (intOf idx).toNat)
  case atStart => exact ⟨0, by omega, rfl, by simp [Hid], rfl⟩
  case round =>
    obtain ⟨i, hi, rfl, HS, rfl⟩ := hrel
    rw [HTL.out] at hi
    by_cases hlt : i < m
    · obtain ⟨ad, u, rfl, _, hx, hcell⟩ := HL.out.at_ hlt
      obtain ⟨t, rfl, hti⟩ := text_at hx
      have hsz := tx_size t
      obtain ⟨q, hq⟩ : ∃ q, q = t.length := ⟨_, rfl⟩
      rw [← hq] at hsz
      have HQ := Lib.hid hq
      have HTI := Lib.hid hti
      clear hq hti hx
      by_cases h60 : 60 < q
      · go_wp2_with fail
        refine Calls.mono (fixed_any w) ?_
        rintro e w9 ⟨rfl, hb9⟩
        go_wp2
        go_ret
        exact ⟨rfl, hb9⟩
      · go_wp2
        exact ⟨⟨i + 1, by rw [HTL.out]; omega, by go_num, by
          intro t' ht'
          rw [List.take_add_one, HTI.out] at ht'
          rcases List.mem_append.1 ht' with h | h
          · exact HS.out t' h
          · have : t' = t := by simpa using h
            rw [this, ← HQ.out]; omega, rfl⟩, by simp [intOf]; omega⟩
    · obtain rfl : i = m := by omega
      have h60 : ∀ t ∈ ts, t.length ≤ 60 := by
        have := HS.out
        rwa [List.take_of_length_le (by rw [HTL.out]; omega)] at this
      have hbl : (blobs ts).length ≤ 2100 := by
        have := blobs_len ts 60 (by unfold top; omega) h60
        have h2 := HTL.out
        rw [h2] at this
        omega
      have HLIST : Hid (∀ X, Below w.heap.size w X → _) := fun X hX => rblist_any L i d w.heap.size ts (by omega) (by omega) X hX.size (HL.out.below hX)
      have htexts := Cu.texts_laid ts (by rw [HTL.out]; exact hm) h60
      have hlen : (UInt8.ofNat ts.length :: blobs ts).length ≤ 2101 := by simp; omega
      have hk0 : IntKind.u8.wrap (i : Int) = (i : Int) := by rw [IntKind.wrap_u8']; omega
      have hbv : bv (UInt8.ofNat i) = .int .u8 (i : Int) := bv_ofNat (by omega)
      have HBV := Lib.hid hbv
      clear hi hlt HS hbv
      go_wp2
      refine wp_region_held (S := fun X => Below w.heap.size w X) (by kernel_rfl) ?_
      have hS : Below w.heap.size w w.drew := (Below.refl _ w).drew
      refine h_take 0 (.slice L i d) rfl (by kernel_rfl) (by kernel_rfl) (by kernel_rfl) (fun _ _ _ h => h) (by kernel_rfl) hS (fun _ _ => by kernel_rfl) ?_
      refine h_take 1 (.int .i64 (i : Int)) rfl (by kernel_rfl) (by kernel_rfl) (by kernel_rfl) (fun _ _ _ h => h) (by kernel_rfl) hS (by intro w' hb; go_simp) ?_
      refine h_take 2 (.int .u8 (i : Int)) rfl (by kernel_rfl) (by kernel_rfl) (by kernel_rfl) (fun _ _ _ h => h) (by kernel_rfl) hS (by intro w' hb; go_simp) ?_
      refine h_take 5 (.slice L i d) rfl (by kernel_rfl) (by kernel_rfl) (by kernel_rfl) (fun _ _ _ h => h) (by kernel_rfl) hS (fun _ _ => by kernel_rfl) ?_
      have HADD : Hid (∀ X : World, (Op.stringOp .add (tx [UInt8.ofNat i]) (tx (blobs ts))).run Try.prog X = .ok (.string (tx (UInt8.ofNat i :: blobs ts))) X) := fun X => add_tx X [UInt8.ofNat i] (blobs ts) (by simp; omega)
      refine h_either 3 6 rfl rfl (by kernel_rfl) (by kernel_rfl) (by kernel_rfl) (fun K hK => ?_) (fun K hK => ?_)
      · go_simp
        have hx1 : Below w.heap.size w (w.alloc (.cells #[.int .u8 (i : Int)] 5)).drew := ((Below.refl _ w).alloc (Nat.le_refl _) _).drew
        have hr1 : Reads (w.alloc (.cells #[.int .u8 (i : Int)] 5)).drew (w.alloc (.cells #[.int .u8 (i : Int)] 5)).drew.heap.size 1 (some ⟨w.heap.size, 0, none⟩) 1 ([UInt8.ofNat i].map bv) := by
          have := reads_one w 5 (UInt8.ofNat i)
          rw [HBV.out] at this
          exact this.more (by simp)
        refine hK _ _ hx1 ?_
        generalize World.drew (World.alloc w _) = x1 at *
        clear hK K
        refine h_less (S' := fun X => Below x1.heap.size x1 X) (fun X hb => hx1.trans (hb.mono hx1.size)) _ _ _ _ ?_
        have hQ : Below x1.heap.size x1 x1 := Below.refl _ _
        have HCV : Hid (∀ X, Below x1.heap.size x1 X → (convert 22 9 (.slice (some ⟨w.heap.size, 0, none⟩) 1 1)).run Try.prog X = .ok (.string (tx [UInt8.ofNat i])) X) := fun X hX => conv_reads Try.underlying22 Try.underlying5 Try.underlying9 (hr1.below hX)
        refine h_take 4 (.string (tx [UInt8.ofNat i])) rfl (by kernel_rfl) (by kernel_rfl) (by kernel_rfl) (fun _ _ _ h => h) (by kernel_rfl) hQ (by intro w' hb; have hcv := HCV.out w' hb; go_simp) ?_
        refine h_one 6 rfl (by kernel_rfl) (by kernel_rfl) (fun K hK => ?_)
        go_simp
        refine (HLIST.out _ hx1).mono ?_
        rintro e w6 ⟨rfl, hb6⟩
        have hQ6 : Below x1.heap.size x1 w6 := hb6
        have hW := hx1.trans (hb6.mono hx1.size)
        refine hK _ _ hQ6 ?_
        clear hK K
        refine h_take 7 (.string (tx (UInt8.ofNat i :: blobs ts))) rfl (by kernel_rfl) (by kernel_rfl) (by kernel_rfl) (fun _ _ _ h => h) (by kernel_rfl) hQ6 (by intro w' hb; have hadd := HADD.out w'; go_simp) ?_
        refine h_take 8 (.string (tx (UInt8.ofNat i :: blobs ts))) rfl (by kernel_rfl) (by kernel_rfl) (by kernel_rfl) (fun _ _ _ h => h) (by kernel_rfl) hQ6 (fun _ _ => by kernel_rfl) ?_
        refine wpAnyH_done (by kernel_rfl) ?_ _
        go_simp
        have HW := Lib.hid hW
        clear HADD HLIST
        have hcs := fun (W : World) => run_bytes_of_string (P := Try.prog) W 9 22 5 (tx (UInt8.ofNat i :: blobs ts)) Try.underlying9 Try.underlying22 Try.underlying5
        rw [HTL.out] at htexts hlen
        have HTX := Lib.hid htexts
        have HLEN := Lib.hid hlen
        clear htexts hlen hk0
        go_wp2_with fail
        refine (new_text (UInt8.ofNat i :: blobs ts) (by have := HLEN.out; omega) w6 _ rfl).mono ?_
        rintro e w1 ⟨b, rfl, hbw, hc1, hb1⟩
        generalize (UInt8.ofNat i :: blobs ts) = all at *
        have HC1 := Lib.hid hc1
        have HB1 := Lib.hid (HW.out.trans (hb1.mono HW.out.size))
        have HBW := Lib.hid (Nat.le_trans HW.out.size hbw)
        clear hc1 hb1 hbw hcs hW
        go_wp2_with fail
        have hn2 := texts_any b b _ 30 60 (by omega) (by omega) w1 HC1.out
        rw [HTX.out] at hn2
        simp only at hn2
        rw [HTL.out] at hn2
        refine Calls.mono hn2 ?_
        clear hn2
        rintro e w2 ⟨v, rfl, hv, hc2, ho2⟩
        obtain ⟨A2, q2, rfl, _, hr2⟩ := own_reads hv
        have HC2 := Lib.hid hc2
        have HB2 := Lib.hid (HB1.out.trans (ho2.below HBW.out HB1.out.size))
        have HR2 := Lib.hid hr2
        clear hc2 ho2 hr2 hv
        go_wp2_with fail
        refine Calls.mono (fixed_any w2) ?_
        rintro e w3 ⟨rfl, hb3⟩
        have HC3 := Lib.hid (HC2.out.below hb3 HC2.out.lt)
        have HB3 := Lib.hid (HB2.out.trans (hb3.mono HB2.out.size))
        have HR3 := Lib.hid ((HR2.out.below hb3).more hb3.size)
        clear hb3
        go_wp2_with fail
        refine Calls.mono (same_any A2 L i q2 d w3.heap.size w.heap.size ts (by omega) w3 (Nat.le_refl _) HB3.out.size HR3.out (HL.out.below HB3.out)) ?_
        rintro e w4 ⟨rfl, hb4⟩
        have HC4 := Lib.hid (HC3.out.below hb4 HC3.out.lt)
        have HB4 := Lib.hid (HB3.out.trans (hb4.mono HB3.out.size))
        clear hb4
        go_wp2_with fail
        refine Calls.mono (err_any b b _ w4 HC4.out) ?_
        rintro e w5' ⟨rfl, rfl⟩
        go_wp2_with fail
        have hlf := left_any b b _ w4 HC4.out
        simp only [Nat.sub_self] at hlf
        refine Calls.mono hlf ?_
        clear hlf
        rintro e w5' ⟨rfl, hb5'⟩
        have HC5 := Lib.hid (HC4.out.below hb5' HC4.out.lt)
        have HB5 := Lib.hid (HB4.out.trans (hb5'.mono HB4.out.size))
        clear hb5'
        go_wp2_with fail
        have hn3 := numbers_any b b _ 5 (by omega) w5' HC5.out
        rw [Cu.nums_end] at hn3
        refine Calls.mono hn3 ?_
        clear hn3
        rintro e w7 ⟨v, rfl, hv, hc7, ho7⟩
        obtain ⟨A7, q7, rfl, _, _⟩ := own_reads hv
        have HC7 := Lib.hid hc7
        have HB7 := Lib.hid (HB5.out.trans (ho7.below HBW.out HB5.out.size))
        clear hc7 ho7 hv
        go_wp2_with fail
        refine Calls.mono (err_any b b _ w7 HC7.out) ?_
        rintro e w8 ⟨rfl, rfl⟩
        go_wp2_with fail
        refine Calls.mono (taken_any A n cap ns hn HLT.out w7 ((HR.out.below HB7.out).more HB7.out.size)) ?_
        rintro e w8 ⟨rfl, hb8⟩
        go_wp2
        go_ret
        exact ⟨rfl, HB7.out.trans (hb8.mono HB7.out.size)⟩
      · go_simp
        refine (HLIST.out _ hS).mono ?_
        rintro e w5 ⟨rfl, hb5⟩
        have hS5 := hS.trans (hb5.mono hS.size)
        refine hK _ _ hS5 ?_
        clear hK K
        refine h_one 3 rfl (by kernel_rfl) (by kernel_rfl) (fun K hK => ?_)
        go_simp
        have hW : Below w.heap.size w (w5.alloc (.cells #[.int .u8 (i : Int)] 5)) := hS5.alloc hS5.size _
        have hr1 : Reads (w5.alloc (.cells #[.int .u8 (i : Int)] 5)) (w5.alloc (.cells #[.int .u8 (i : Int)] 5)).heap.size 1 (some ⟨w5.heap.size, 0, none⟩) 1 ([UInt8.ofNat i].map bv) := by
          have := reads_one w5 5 (UInt8.ofNat i)
          rw [HBV.out] at this
          exact this.more (by simp)
        refine hK _ _ hW ?_
        generalize World.alloc w5 _ = w6 at *
        clear hK K
        refine h_less (S' := fun X => Below w6.heap.size w6 X) (fun X hb => hW.trans (hb.mono hW.size)) _ _ _ _ ?_
        have hQ : Below w6.heap.size w6 w6 := Below.refl _ _
        have HCV : Hid (∀ X, Below w6.heap.size w6 X → (convert 22 9 (.slice (some ⟨w5.heap.size, 0, none⟩) 1 1)).run Try.prog X = .ok (.string (tx [UInt8.ofNat i])) X) := fun X hX => conv_reads Try.underlying22 Try.underlying5 Try.underlying9 (hr1.below hX)
        refine h_take 4 (.string (tx [UInt8.ofNat i])) rfl (by kernel_rfl) (by kernel_rfl) (by kernel_rfl) (fun _ _ _ h => h) (by kernel_rfl) hQ (by intro w' hb; have hcv := HCV.out w' hb; go_simp) ?_
        refine h_take 7 (.string (tx (UInt8.ofNat i :: blobs ts))) rfl (by kernel_rfl) (by kernel_rfl) (by kernel_rfl) (fun _ _ _ h => h) (by kernel_rfl) hQ (by intro w' hb; have hadd := HADD.out w'; go_simp) ?_
        refine h_take 8 (.string (tx (UInt8.ofNat i :: blobs ts))) rfl (by kernel_rfl) (by kernel_rfl) (by kernel_rfl) (fun _ _ _ h => h) (by kernel_rfl) hQ (fun _ _ => by kernel_rfl) ?_
        refine wpAnyH_done (by kernel_rfl) ?_ _
        go_simp
        have HW := Lib.hid hW
        clear HADD HLIST
        have hcs := fun (W : World) => run_bytes_of_string (P := Try.prog) W 9 22 5 (tx (UInt8.ofNat i :: blobs ts)) Try.underlying9 Try.underlying22 Try.underlying5
        rw [HTL.out] at htexts hlen
        have HTX := Lib.hid htexts
        have HLEN := Lib.hid hlen
        clear htexts hlen hk0
        go_wp2_with fail
        refine (new_text (UInt8.ofNat i :: blobs ts) (by have := HLEN.out; omega) w6 _ rfl).mono ?_
        rintro e w1 ⟨b, rfl, hbw, hc1, hb1⟩
        generalize (UInt8.ofNat i :: blobs ts) = all at *
        have HC1 := Lib.hid hc1
        have HB1 := Lib.hid (HW.out.trans (hb1.mono HW.out.size))
        have HBW := Lib.hid (Nat.le_trans HW.out.size hbw)
        clear hc1 hb1 hbw hcs hW
        go_wp2_with fail
        have hn2 := texts_any b b _ 30 60 (by omega) (by omega) w1 HC1.out
        rw [HTX.out] at hn2
        simp only at hn2
        rw [HTL.out] at hn2
        refine Calls.mono hn2 ?_
        clear hn2
        rintro e w2 ⟨v, rfl, hv, hc2, ho2⟩
        obtain ⟨A2, q2, rfl, _, hr2⟩ := own_reads hv
        have HC2 := Lib.hid hc2
        have HB2 := Lib.hid (HB1.out.trans (ho2.below HBW.out HB1.out.size))
        have HR2 := Lib.hid hr2
        clear hc2 ho2 hr2 hv
        go_wp2_with fail
        refine Calls.mono (fixed_any w2) ?_
        rintro e w3 ⟨rfl, hb3⟩
        have HC3 := Lib.hid (HC2.out.below hb3 HC2.out.lt)
        have HB3 := Lib.hid (HB2.out.trans (hb3.mono HB2.out.size))
        have HR3 := Lib.hid ((HR2.out.below hb3).more hb3.size)
        clear hb3
        go_wp2_with fail
        refine Calls.mono (same_any A2 L i q2 d w3.heap.size w.heap.size ts (by omega) w3 (Nat.le_refl _) HB3.out.size HR3.out (HL.out.below HB3.out)) ?_
        rintro e w4 ⟨rfl, hb4⟩
        have HC4 := Lib.hid (HC3.out.below hb4 HC3.out.lt)
        have HB4 := Lib.hid (HB3.out.trans (hb4.mono HB3.out.size))
        clear hb4
        go_wp2_with fail
        refine Calls.mono (err_any b b _ w4 HC4.out) ?_
        rintro e w5' ⟨rfl, rfl⟩
        go_wp2_with fail
        have hlf := left_any b b _ w4 HC4.out
        simp only [Nat.sub_self] at hlf
        refine Calls.mono hlf ?_
        clear hlf
        rintro e w5' ⟨rfl, hb5'⟩
        have HC5 := Lib.hid (HC4.out.below hb5' HC4.out.lt)
        have HB5 := Lib.hid (HB4.out.trans (hb5'.mono HB4.out.size))
        clear hb5'
        go_wp2_with fail
        have hn3 := numbers_any b b _ 5 (by omega) w5' HC5.out
        rw [Cu.nums_end] at hn3
        refine Calls.mono hn3 ?_
        clear hn3
        rintro e w7 ⟨v, rfl, hv, hc7, ho7⟩
        obtain ⟨A7, q7, rfl, _, _⟩ := own_reads hv
        have HC7 := Lib.hid hc7
        have HB7 := Lib.hid (HB5.out.trans (ho7.below HBW.out HB5.out.size))
        clear hc7 ho7 hv
        go_wp2_with fail
        refine Calls.mono (err_any b b _ w7 HC7.out) ?_
        rintro e w8 ⟨rfl, rfl⟩
        go_wp2_with fail
        refine Calls.mono (taken_any A n cap ns hn HLT.out w7 ((HR.out.below HB7.out).more HB7.out.size)) ?_
        rintro e w8 ⟨rfl, hb8⟩
        go_wp2
        go_ret
        exact ⟨rfl, HB7.out.trans (hb8.mono HB7.out.size)⟩

set_option maxRecDepth 100000 in
set_option maxHeartbeats 400000 in
theorem back_long (L A : Option Addr) (m d n cap : Nat) (h : 30 < m ∨ 30 < n) (w : World) :
    Calls Try.prog 5 #[.slice L m d, .slice A n cap] w fun e w' => e = .returned (.bool true) ∧ Below w.heap.size w w' := by
  by_cases h1 : 30 < m
  · clear h
    go_enter Try.func5, Try.ntmps5
    go_wp2_with fail
    refine Calls.mono (fixed_any w) ?_
    rintro e w9 ⟨rfl, hb9⟩
    go_wp2
    go_ret
    exact ⟨rfl, hb9⟩
  · have h2 : 30 < n := by omega
    clear h
    go_enter Try.func5, Try.ntmps5
    go_wp2_with fail
    refine Calls.mono (fixed_any w) ?_
    rintro e w9 ⟨rfl, hb9⟩
    go_wp2
    go_ret
    exact ⟨rfl, hb9⟩

theorem back_any (L A : Option Addr) (m d n cap : Nat) (ts : List (List UInt8)) (ns : List Nat) (hlt : ∀ x ∈ ns, x < top) (w : World) (hl : Reads w w.heap.size 1 L m (ts.map sv)) (hr : Reads w w.heap.size 1 A n (ns.map nv)) :
    Calls Try.prog 5 #[.slice L m d, .slice A n cap] w fun e w' => e = .returned (.bool true) ∧ Below w.heap.size w w' := by
  by_cases h : 30 < m ∨ 30 < n
  · exact back_long L A m d n cap h w
  · exact back_short L A m d n cap ts ns (by omega) (by omega) hlt w hl hr

end Go.Proofs.Ytkpgnpiofhgcpaa
