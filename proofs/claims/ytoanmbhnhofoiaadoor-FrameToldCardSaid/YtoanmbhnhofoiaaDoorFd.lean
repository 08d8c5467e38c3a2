/- The walk of frame.Get; and the chapter's example. -/
import Derived.Test.YtoanmbhnhofoiaaDoorFc
import Derived.Test.YtoanmbhnhofoiaaDoorBc
namespace Go.Proofs.YtoanmbhnhofoiaaDoor
open Go.RowKit Go.Shelf

/-- Bytes in memory of one's own, which a text gave. -/
def Mine (w : World) (B : Nat) (v : Value) (bs : List UInt8) : Prop :=
  (v = .slice none 0 0 ∧ bs = []) ∨ ∃ g c cs f, v = .slice (some ⟨g, 0, none⟩) bs.length c ∧ bs.length ≤ c ∧ B ≤ g ∧ w.heap[g]? = some (.cells cs 5 (f, f + 1)) ∧ bs.length ≤ f ∧ ∀ (i : Nat) (u : Value), (bs.map bv)[i]? = some u → cs[i]? = some u

theorem Mine.keep {w w' : World} {B : Nat} {v : Value} {bs : List UInt8} (h : Mine w B v bs) (hk : ∀ (g : Nat) (cs : Array Value) (f : Nat × Nat), B ≤ g → w.heap[g]? = some (.cells cs 5 f) → w'.heap[g]? = w.heap[g]?) : Mine w' B v bs := by
  rcases h with h | ⟨g, c, cs, f, h1, h2, h3, h4, h5, h6⟩
  · exact .inl h
  · exact .inr ⟨g, c, cs, f, h1, h2, h3, (hk g cs _ h3 h4).trans h4, h5, h6⟩
theorem Mine.below {w w' : World} {B : Nat} {v : Value} {bs : List UInt8} (h : Mine w B v bs) (hb : Below w.heap.size w w') : Mine w' B v bs :=
  h.keep fun g _ _ _ hg => hb.block g (Array.getElem?_eq_some_iff.1 hg).1
theorem Mine.less {w : World} {B B' : Nat} {v : Value} {bs : List UInt8} (h : Mine w B v bs) (hB : B' ≤ B) : Mine w B' v bs := by
  rcases h with h | ⟨g, c, cs, f, h1, h2, h3, h4, h5, h6⟩
  · exact .inl h
  · exact .inr ⟨g, c, cs, f, h1, h2, Nat.le_trans hB h3, h4, h5, h6⟩

theorem Mine.reads {w : World} {B : Nat} {v : Value} {bs : List UInt8} (h : Mine w B v bs) : ∃ A c, v = .slice A bs.length c ∧ bs.length ≤ c ∧ (A = none → c = 0) ∧ Reads w w.heap.size 1 A bs.length (bs.map bv) := by
  rcases h with ⟨rfl, rfl⟩ | ⟨g, c, cs, f, h1, h2, h3, h4, h5, h6⟩
  · exact ⟨none, 0, rfl, Nat.le_refl _, fun _ => rfl, Reads.none_⟩
  · refine ⟨some ⟨g, 0, none⟩, c, h1, h2, (fun e => by cases e), by simp, fun _ => ⟨_, rfl, (Array.getElem?_eq_some_iff.1 h4).1, fun j u hj => ?_⟩⟩
    have h0 : Addr.add ⟨g, 0, none⟩ j = ⟨g, j, none⟩ := by
      unfold Addr.add
      split
      · rename_i h; rw [h]
      · simp
    rw [h0]
    simp only [World.cell?, h4]
    simpa using h6 j u hj

theorem mine_text (W : World) (bs : List UInt8) (cap : Nat) (hc : bs.length ≤ cap) :
    Mine (W.alloc (.cells (bytesRow (tx bs) cap) 5 ((bytesRow (tx bs) cap).size, (bytesRow (tx bs) cap).size + 1))) W.heap.size (.slice (some ⟨W.heap.size, 0, none⟩) (tx bs).size cap) bs := by
  refine .inr ⟨W.heap.size, cap, bytesRow (tx bs) cap, (bytesRow (tx bs) cap).size, by rw [tx_size], hc, Nat.le_refl _, by show (W.heap.push _)[W.heap.size]? = _; simp, ?_, ?_⟩
  · have : (bytesRow (tx bs) cap).size = cap := by
      have := tx_size bs
      simp only [bytesRow, Array.size_append, Array.size_map, Array.size_replicate]
      rw [this]; simp [tx]; omega
    omega
  · intro i u hu
    have hlt := (List.getElem?_eq_some_iff.1 hu).1
    have hlt2 : i < bs.length := by simpa using hlt
    rw [bytesRow_at (tx bs) cap i (by simpa [tx] using hlt2), ← hu]
    simp [tx, bv, hlt2]

set_option maxRecDepth 100000 in
set_option maxHeartbeats 400000 in
theorem fget_bad (A : Option Addr) (n c : Nat) (at_ : Int) (h : at_ < 0 ∨ (n : Int) < at_) (w : World) :
    Calls Tryd.prog 15 #[.slice A n c, .int .i64 at_] w fun e w' => e = .returned (.tuple #[.slice none 0 0, .int .i64 0, .int .i64 1]) ∧ w = w' := by
  have HG := Lib.hid (bget_bad A n c at_ 2048 h w)
  have hb : bres ([], 0, 1) = .tuple #[.string (tx []), .int .i64 0, .int .i64 1] := rfl
  rw [hb] at HG
  have hne : (at_ == (n : Int)) = false := by rw [beq_eq_false_iff_ne]; omega
  clear hb h
  go_enter Tryd.func15, Tryd.ntmps15
  go_wp2_with (go_at_call 31; refine HG.out.mono ?_; rintro e w1 ⟨rfl, rfl⟩)
  go_ret3
  exact ⟨rfl, rfl⟩

set_option maxRecDepth 100000 in
set_option maxHeartbeats 400000 in
theorem fget_any (A : Option Addr) (n c at_ : Nat) (bs : List UInt8) (hc : n ≤ c) (hn : n ≤ 1073741824) (hat : at_ ≤ n) (w : World) (hl : Laid w) (hr : Reads w w.heap.size 1 A n (bs.map bv)) :
    Calls Tryd.prog 15 #[.slice A n c, .int .i64 (at_ : Int)] w fun e w' => ∃ v, e = .returned (.tuple #[v, .int .i64 ((fg at_ bs).2.1 : Int), .int .i64 ((fg at_ bs).2.2 : Int)]) ∧ Mine w' w.heap.size v (fg at_ bs).1 ∧ Below w.heap.size w w' := by
  have hbn : bs.length = n := by have := hr.1; simpa using this
  by_cases h0 : at_ = n
  · subst h0
    have e0 : fg at_ bs = ([], 0, 6) := by rw [← hbn]; exact fg_end bs
    rw [e0]
    clear hbn e0
    go_enter Tryd.func15, Tryd.ntmps15
    go_wp2
    go_ret3
    exact ⟨_, rfl, .inl ⟨rfl, rfl⟩, Below.refl _ _⟩
  have hne : ((at_ : Int) == (n : Int)) = false := by rw [beq_eq_false_iff_ne]; omega
  have hnb : at_ ≠ bs.length := by omega
  have HG0 := bget_any A n c at_ 2048 w.heap.size bs hc hn (by omega) hat w hr
  have hfive : (∃ e0, (e0 = 2 ∨ e0 = 3 ∨ e0 = 5) ∧ bg 2048 at_ bs = ([], 0, e0)) ∨ ∃ s nx, bg 2048 at_ bs = (s, nx, 0) := by
    rcases bg_five (most := 2048) (at_ := at_) (bs := bs) with h | h | h | h
    · exact .inl ⟨2, by simp, h⟩
    · exact .inl ⟨3, by simp, h⟩
    · exact .inl ⟨5, by simp, h⟩
    · exact .inr h
  rcases hfive with ⟨e0, he0, hg⟩ | ⟨s, nx, hg⟩
  · rw [fg_err hnb hg (by omega)]
    rw [hg] at HG0
    clear hg hbn hnb
    rcases he0 with rfl | rfl | rfl
    all_goals
      have HG := Lib.hid HG0
      clear HG0
      go_enter Tryd.func15, Tryd.ntmps15
      go_wp2_with (go_at_call 31; refine HG.out.mono ?_; rintro e w1 ⟨rfl, rfl⟩; unfold bres)
      go_ret3
      exact ⟨_, rfl, .inl ⟨rfl, rfl⟩, Below.refl _ _⟩
  · rw [hg] at HG0
    have hb1 := bg_one hg
    have hm1 := bg_most hg
    by_cases hs : s = []
    · subst hs
      rw [fg_form hnb hg]
      clear hg hbn hnb hb1
      have HG := Lib.hid HG0
      clear HG0
      have hem : (tx ([] : List UInt8)) = ⟨#[]⟩ := rfl
      go_enter Tryd.func15, Tryd.ntmps15
      go_wp2_with (go_at_call 31; refine HG.out.mono ?_; rintro e w1 ⟨rfl, rfl⟩; unfold bres; rw [hem])
      go_ret3
      exact ⟨_, rfl, .inl ⟨rfl, rfl⟩, Below.refl _ _⟩
    · have hse : ((tx s).toList == []) = false := by rw [tx_toList]; simpa using hs
      have hbr : bres (s, nx, 0) = .tuple #[.string (tx s), .int .i64 (nx : Int), .int .i64 0] := rfl
      rw [hbr] at HG0
      have hnx1 : at_ < nx := hb1.1
      have hnx2 : nx ≤ n := by omega
      have HB1 := Lib.hid hb1
      clear hbr hb1
      by_cases hsh : n < nx + 4
      · rw [fg_short hnb hg hs (by omega)]
        have HG := Lib.hid HG0
        have HR := Lib.hid (read_bad A n c (nx : Int) hn (.inr (by omega)) w)
        obtain ⟨t, ht⟩ : ∃ t, t = tx s := ⟨_, rfl⟩
        rw [← ht] at HG hse
        clear HG0 hg hs hbn hnb ht
        go_enter Tryd.func15, Tryd.ntmps15
        go_wp2_with (first
          | (go_at_call 31; refine HG.out.mono ?_; rintro e w1 ⟨rfl, rfl⟩)
          | (go_at_call 26; refine HR.out.mono ?_; rintro e w1 ⟨rfl, rfl⟩))
        go_ret3
        exact ⟨_, rfl, .inl ⟨rfl, rfl⟩, Below.refl _ _⟩
      · have hR0 := read_ok A n c nx bs hn hc (by omega) w hr
        have hcut := (hr.take (k := nx) (by omega)).cut (k := at_) (cap := c) (by omega) (by omega)
        simp only [Nat.mul_one] at hcut
        have hlen4 : ((bs.drop nx).take 4).length = 4 := by rw [List.length_take, List.length_drop]; omega
        have hrow : ((bs.map bv).take nx).drop at_ = ((bs.drop at_).take (nx - at_)).map bv := by
          rw [List.map_take, List.map_drop, List.drop_take]
        rw [hrow] at hcut
        have hne2 : ¬ (c = at_) := by omega
        rw [if_neg hne2] at hcut
        obtain ⟨ad, rfl, hadb, _⟩ := hr.2 (by omega)
        have hS0 := sum_one w (.slice (some (ad.add at_)) (nx - at_) (c - at_)) ((bs.drop at_).take (nx - at_)) hl ⟨_, nx - at_, c - at_, rfl, by omega, by omega, hcut⟩
        by_cases hc4 : le4 ((bs.drop nx).take 4) = crc ((bs.drop at_).take (nx - at_))
        · rw [fg_go hnb hg hs (by omega) ((sum_ne hlen4).1 hc4)]
          rw [hc4] at hR0
          have hmine := fun (W : World) (cap : Nat) (h1 : s.length ≤ cap) => mine_text W s cap h1
          obtain ⟨q, hq⟩ : ∃ q, q = crc ((bs.drop at_).take (nx - at_)) := ⟨_, rfl⟩
          rw [← hq] at hS0 hR0
          obtain ⟨a, ha⟩ : ∃ a, a = q.toNat := ⟨_, rfl⟩
          have hwq : wv q = .int .u32 (a : Int) := by rw [wv, ha]
          rw [hwq] at hS0 hR0
          have HG := Lib.hid HG0
          have HR := Lib.hid hR0
          have HS := Lib.hid hS0
          have HM := Lib.hid hmine
          obtain ⟨t, ht⟩ : ∃ t, t = tx s := ⟨_, rfl⟩
          have hts : t.size = s.length := by rw [ht, tx_size]
          have HTS := Lib.hid hts
          rw [← ht] at HG hse HM
          have kb := fun W : World => run_bytes_of_string (P := Tryd.prog) W 9 22 5 t Tryd.underlying9 Tryd.underlying22 Tryd.underlying5
          clear HG0 hg hs hbn hnb hR0 hS0 hmine hcut hrow hlen4 hc4 hq ha hwq ht hts
          go_enter Tryd.func15, Tryd.ntmps15
          go_wp2_with (first
            | (go_at_call 31; refine HG.out.mono ?_; rintro e w1 ⟨rfl, rfl⟩)
            | (go_at_call 26; refine HR.out.mono ?_; rintro e w1 ⟨rfl, rfl⟩)
            | (go_at_call 27; refine HS.out.mono ?_; rintro e w1 ⟨rfl, rfl⟩))
          go_ret3
          refine ⟨_, rfl, ?_, ((Below.refl _ w).alloc (Nat.le_refl _) _).drew.alloc (by simp) _⟩
          have h := HM.out ((w.alloc (.cells #[.slice (some (ad.add at_)) (nx - at_) (c - at_)] 22)).drew) (grownCap (w.alloc (.cells #[.slice (some (ad.add at_)) (nx - at_) (c - at_)] 22)) t.size 0 5) (by rw [← HTS.out]; exact grownCap_ge _ _ _ _)
          have h2 := h.less (B' := w.heap.size) (by simp)
          have e : (w.alloc (.cells #[.slice (some (ad.add at_)) (nx - at_) (c - at_)] 22)).drew.heap.size = w.heap.size + 1 := by simp
          rw [e] at h2
          exact h2
        · rw [fg_sum hnb hg hs (by omega) (fun e4 => hc4 ((sum_ne hlen4).2 e4))]
          obtain ⟨q, hq⟩ : ∃ q, q = crc ((bs.drop at_).take (nx - at_)) := ⟨_, rfl⟩
          obtain ⟨q2, hq2⟩ : ∃ q2, q2 = le4 ((bs.drop nx).take 4) := ⟨_, rfl⟩
          rw [← hq] at hS0 hc4
          rw [← hq2] at hR0 hc4
          obtain ⟨a, ha⟩ : ∃ a, a = q.toNat := ⟨_, rfl⟩
          obtain ⟨b, hb⟩ : ∃ b, b = q2.toNat := ⟨_, rfl⟩
          have hne3 : ¬ (b = a) := fun e => hc4 (BitVec.eq_of_toNat_eq (by omega))
          have hwq : wv q = .int .u32 (a : Int) := by rw [wv, ha]
          have hwq2 : wv q2 = .int .u32 (b : Int) := by rw [wv, hb]
          rw [hwq] at hS0
          rw [hwq2] at hR0
          have HG := Lib.hid HG0
          have HR := Lib.hid hR0
          have HS := Lib.hid hS0
          obtain ⟨t, ht⟩ : ∃ t, t = tx s := ⟨_, rfl⟩
          rw [← ht] at HG hse
          clear HG0 hg hs hbn hnb hR0 hS0 hcut hrow hlen4 hc4 hq hq2 ha hb hwq hwq2 ht
          go_enter Tryd.func15, Tryd.ntmps15
          go_wp2_with (first
            | (go_at_call 31; refine HG.out.mono ?_; rintro e w1 ⟨rfl, rfl⟩)
            | (go_at_call 26; refine HR.out.mono ?_; rintro e w1 ⟨rfl, rfl⟩)
            | (go_at_call 27; refine HS.out.mono ?_; rintro e w1 ⟨rfl, rfl⟩))
          go_ret3
          exact ⟨_, rfl, .inl ⟨rfl, rfl⟩, (Below.refl _ w).alloc (Nat.le_refl _) _⟩

/-- The chapter's example. -/
theorem ex_fr : fr [97] = [1, 97] ++ lb (crc [1, 97]) := by
  have h : blob [97] = [1, 97] := by
    rw [blob, show ([97] : List UInt8).length = 1 from rfl, vb_lt (by omega)]; rfl
  rw [fr, h]

set_option maxRecDepth 100000 in
set_option maxHeartbeats 400000 in
theorem frame_fixed (w : World) (hl : Laid w) : Calls Tryd.prog 8 #[] w fun e w' => e = .returned (.bool true) ∧ Below w.heap.size w w' := by
  have kc := fun (w : World) (C : Array Value) (n c : Nat) => Lib.run_convert_bytes_const (P := Tryd.prog) w 22 5 C n c Tryd.underlying22 Tryd.underlying5
  have HB0 : Hid (Below w.heap.size w (w.alloc (.cells #[.int .u8 97] 5 (1, 2)))) := (Below.refl _ w).alloc (Nat.le_refl _) _
  have e97 : ([97] : List UInt8).map bv = [Value.int .u8 97] := by kernel_rfl
  have hrow := reads_lit w 5 [97] (1, 2)
  rw [e97] at hrow
  have hlit : Reads (w.alloc (.cells #[.int .u8 97] 5 (1, 2))) (w.heap.size + 1) 1 (some ⟨w.heap.size, 0, none⟩) 1 (([97] : List UInt8).map bv) := by rw [e97]; exact hrow
  have hsz : (w.alloc (.cells #[.int .u8 97] 5 (1, 2))).heap.size = w.heap.size + 1 := by simp
  have hput := fput_any none (some ⟨w.heap.size, 0, none⟩) 0 0 1 1 [] [97] ⟨by simp, by simp⟩ (by omega) (Nat.le_refl _) (fun _ => rfl) (w.alloc (.cells #[.int .u8 97] 5 (1, 2))) (hl.below HB0.out) Reads.none_ (by rw [hsz]; exact hlit)
  rw [List.nil_append, ex_fr] at hput
  have e6 : ([1, 97] ++ lb (crc [1, 97])).length = 6 := rfl
  have HPUT : Hid (Calls Tryd.prog 13 #[.slice none 0 0, .slice (some ⟨w.heap.size, 0, none⟩) 1 1] (w.alloc (.cells #[.int .u8 97] 5 (1, 2))) fun e w' => ∃ ad c, e = .returned (.tuple #[.slice (some ad) 6 c, .int .i64 0]) ∧ w'.cell? ad = some (.int .u8 1) ∧ w'.cell? ⟨ad.block, ad.off + 1, none⟩ = some (.int .u8 97) ∧ Below w.heap.size w w') := by
    refine hput.mono ?_
    rintro e w' ⟨v, rfl, ho, hb⟩
    rw [e6] at ho
    obtain ⟨A, c, rfl, hc, hr⟩ := own_reads ho
    obtain ⟨ad, rfl, _, hcells⟩ := hr.2 (by decide)
    have h0 := hcells 0 (.int .u8 1) rfl
    have h1 := hcells 1 (.int .u8 97) rfl
    rw [hsz] at hb
    exact ⟨ad, c, rfl, by simpa [Addr.add] using h0, by simpa [Addr.add] using h1, HB0.out.trans (hb.mono (by omega))⟩
  clear hl hput hlit hrow e97 hsz e6
  go_enter Tryd.func8, Tryd.ntmps8
  go_wp2_with (go_at_call 13; refine HPUT.out.mono ?_; rintro e w' ⟨ad, c, rfl, hc0, hc1, hb⟩)
  go_ret
  exact ⟨rfl, hb⟩

end Go.Proofs.YtoanmbhnhofoiaaDoor
